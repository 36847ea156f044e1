import Derived.Test.YtbghglkplbnnkaaGreatDoorYHeapE
set_option linter.unusedVariables false
set_option linter.unusedSimpArgs false
namespace Go.Proofs.YtbghglkplbnnkaaGreatDoor
open Go.RowKit Sec
open Go.Proofs.YtbghglkplbnnkaaGreatDoor.Bk

section
variable {B : Nat} {w : World} {b g c : Nat} {h l : Int} {W : List Int}
set_option maxRecDepth 100000 in
set_option maxHeartbeats 8000000 in
theorem rcheck_is (k : HIs B w b h l W g c) (hWl : (W.length : Int) = 16 + 2 * h) (hr : Ints64 W) : Calls Tryz.prog 20 #[.pointer (some ⟨b, 0, none⟩)] w fun e w' => e = .returned (.bool (chkB h l W)) ∧ Below w.heap.size w w' := by
  have HO := Lib.hid (robjects_is k hWl)
  have HC := Lib.hid (fun u (y : Below w.heap.size w u) => rcontrol_is (k.below y))
  have HIs := Lib.hid (fun u (y : Below w.heap.size w u) (a : Int) => ris_is (k.below y) hWl a)
  cases q0 : (objs h l W).2 with
  | false =>
    have e0 : chkB h l W = false := by rw [chkB, q0, Bool.false_and]
    rw [e0]
    rw [q0] at HO
    clear k hWl hr e0 q0
    generalize (objs h l W).1 = T at *
    generalize hSp W = x0 at *
    generalize hFr W = x1 at *
    generalize hGc W = x2 at *
    generalize hSc W = x3 at *
    go_enter Tryz.func20, Tryz.ntmps20
    go_wp2_with (go_at_call 45; refine HO.out.mono ?_; rintro e w1 ⟨v, rfl, b1, o1⟩; have H1 := Lib.hid (CkS.mk b1 o1); clear b1 o1)
    all_goals go_ret
    all_goals exact ⟨rfl, H1.out.b⟩
  | true =>
    have ok := objs_ok q0
    obtain ⟨_, _, fg, _, _⟩ := fine_yes ok
    rw [q0] at HO
    by_cases hs : hGc W ≠ 1 ∨ hSc W = hFr W ∨ hSc W ∈ (objs h l W).1
    rotate_left
    · have e0 : chkB h l W = false := by rw [chkB, decide_eq_false hs, Bool.false_and, Bool.and_false]
      have g1 : hGc W = 1 := by
        rcases fg with x | x
        · exact absurd (.inl (by rw [x]; decide)) hs
        · exact x
      have s1 : ¬ hSc W = hFr W := fun x => hs (.inr (.inl x))
      have s2 : hSc W ∉ (objs h l W).1 := fun x => hs (.inr (.inr x))
      have HI := Lib.hid (fun u (y : Below w.heap.size w u) => HIs.out u y (hSc W))
      rw [decide_eq_false s2] at HI
      rw [e0]
      rw [g1] at HC
      have s3 : (hSc W == hFr W) = false := beq_eq_false_iff_ne.2 s1
      clear k hWl hr e0 q0 hs s2 HIs fg g1 ok
      generalize (objs h l W).1 = T at *
      generalize hSp W = x0 at *
      generalize hFr W = x1 at *
      generalize hSc W = x3 at *
      go_enter Tryz.func20, Tryz.ntmps20
      go_wp2_with (first
        | (go_at_call 45; refine HO.out.mono ?_; rintro e w1 ⟨v, rfl, b1, o1⟩; have H1 := Lib.hid (CkS.mk b1 o1); clear b1 o1)
        | (go_at_call 39; refine (HC.out _ H1.out.b).mono ?_; rintro e w2 ⟨rfl, b2⟩; have H2 := Lib.hid (H1.out.next b2); clear b2)
        | (go_at_call 46; refine (HI.out _ H2.out.b).mono ?_; rintro e w3 ⟨rfl, b3⟩; replace H2 := Lib.hid (H2.out.next b3); clear b3)
        | fail)
      all_goals go_ret
      all_goals exact ⟨rfl, H2.out.b⟩
    · obtain ⟨T, hT⟩ : ∃ T, T = (objs h l W).1 := ⟨_, rfl⟩
      rw [← hT] at hs HO HIs
      have eC : chkB h l W = ((celL W 8 8).all (fun r => decide (r = 0 ∨ r ∈ T)) && T.all (fun a => (slL W a).all (fun v => chkS h l W a v))) := by
        rw [chkB, q0, ← hT, decide_eq_true hs, Bool.true_and, Bool.true_and]
      have HR0 : Hid (∀ j, j < 8 → ¬ (W.getD (8 + j) 0 = 0 ∨ W.getD (8 + j) 0 ∈ T) → chkB h l W = false) := Lib.hid (fun j hj hn => by
        rw [eC]
        have : (celL W 8 8).all (fun r => decide (r = 0 ∨ r ∈ T)) = false := by
          rw [List.all_eq_false]
          exact ⟨_, mem_celL.2 ⟨j, hj, rfl⟩, by rw [decide_eq_true_eq]; exact hn⟩
        rw [this, Bool.false_and])
      have HS0 : Hid (∀ i, i < T.length → ∀ m, m < (prS (W.getD (T.getD i 0).toNat 0)).toNat → chkS h l W (T.getD i 0) (W.getD ((T.getD i 0 + 1).toNat + m) 0) = false → chkB h l W = false) := Lib.hid (fun i hi m hm hn => by
        rw [eC]
        have : T.all (fun a => (slL W a).all (fun v => chkS h l W a v)) = false := by
          rw [List.all_eq_false]
          refine ⟨T.getD i 0, by rw [List.getD_eq_getElem?_getD, List.getElem?_eq_getElem hi]; exact List.getElem_mem hi, ?_⟩
          have : (slL W (T.getD i 0)).all (fun v => chkS h l W (T.getD i 0) v) = false := by
            rw [List.all_eq_false]
            exact ⟨_, mem_celL.2 ⟨m, hm, rfl⟩, by rw [hn]; decide⟩
          rw [this]
          decide
        rw [this, Bool.and_false])
      have HT0 : Hid ((∀ j, j < 8 → W.getD (8 + j) 0 = 0 ∨ W.getD (8 + j) 0 ∈ T) → (∀ i, i < T.length → ∀ m, m < (prS (W.getD (T.getD i 0).toNat 0)).toNat → chkS h l W (T.getD i 0) (W.getD ((T.getD i 0 + 1).toNat + m) 0) = true) → chkB h l W = true) := Lib.hid (fun h1 h2 => by
        rw [eC, Bool.and_eq_true, List.all_eq_true, List.all_eq_true]
        refine ⟨fun r hr => ?_, fun a ha => ?_⟩
        · obtain ⟨j, hj, rfl⟩ := mem_celL.1 hr
          exact decide_eq_true (h1 j hj)
        · rw [List.all_eq_true]
          intro v hv
          obtain ⟨m, hm, rfl⟩ := mem_celL.1 hv
          obtain ⟨i, hi, e⟩ := List.getElem_of_mem ha
          have e2 : T.getD i 0 = a := by
            rw [List.getD_eq_getElem?_getD, List.getElem?_eq_getElem hi]
            exact e
          have := h2 i hi m
          rw [e2] at this
          exact this hm)
      have HE := Lib.hid (fun u (y : Below w.heap.size w u) (n : Nat) (hn : n < W.length) => ((k.below y).at hn).1)
      have HD := Lib.hid (fun u (y : Below w.heap.size w u) => (show u.cell? ⟨b, 2, none⟩ = some (.slice (some ⟨g, 0, none⟩) W.length c) from (k.below y).cs.2.2))
      have hge := k.ge
      have HSp : Hid (∀ u, Below w.heap.size w u → u.cell? ⟨g, 0, none⟩ = some (.int .i64 (hSp W))) := Lib.hid (fun u y => ((k.below y).at (show 0 < W.length by omega)).1)
      have hWi : (W.length : Int) ≤ 1000 := by have := k.le; omega
      have hsc : (¬ hGc W = 1 ∧ (hGc W == 1) = false) ∨ (hGc W = 1 ∧ hSc W = hFr W) ∨ (hGc W = 1 ∧ ¬ hSc W = hFr W ∧ (hSc W == hFr W) = false ∧ hSc W ∈ T) := by
        by_cases x : hGc W = 1
        · by_cases y : hSc W = hFr W
          · exact .inr (.inl ⟨x, y⟩)
          · exact .inr (.inr ⟨x, y, beq_eq_false_iff_ne.2 y, (hs.resolve_left (fun z => z x)).resolve_left y⟩)
        · exact .inl ⟨x, beq_eq_false_iff_ne.2 x⟩
      have HIz : Hid (∀ u, Below w.heap.size w u → hSc W ∈ T → Calls Tryz.prog 46 #[.pointer (some ⟨b, 0, none⟩), .int .i64 (hSc W)] u fun e w' => e = .returned (.bool true) ∧ Below u.heap.size u w') := Lib.hid (fun u y hm => by
        have := HIs.out u y (hSc W)
        rwa [decide_eq_true hm] at this)
      have HG : Hid (∀ a v, chkS h l W a v = (decide (v = 0 ∨ v ∈ T) || (!decide (hGc W = 0 ∨ a < hSc W) && ((lk h l W v).2 && (if (lk h l W v).1 = v then inB h (1 - hSp W) v else decide ((lk h l W v).1 ∈ T)))))) := Lib.hid (fun a v => by rw [chkS, ← hT])
      obtain ⟨f1, f2, _, f4, _⟩ := fine_yes ok
      have HLk := Lib.hid (fun u (y : Below w.heap.size w u) (a : Int) => rlook_is (k.below y) hWl hr a)
      have HIn := Lib.hid (fun u (y : Below w.heap.size w u) (a : Int) => rin_is (k.below y) f1 (1 - hSp W) (by omega) a)
      have HTn : Hid (∀ i, i < T.length → ∃ n : Nat, T.getD i 0 = (n : Int) ∧ 16 ≤ n ∧ n < W.length ∧ (n : Int) + 1 + prS (W.getD n 0) + prW (W.getD n 0) ≤ (W.length : Int)) := Lib.hid (fun i hi => by
        have hq := geOk_yes f1
        have hm : 0 ≤ hSp W * h ∧ hSp W * h ≤ h := by rcases f2 with e | e <;> rw [e] <;> omega
        have q1 := q0
        rw [objs, if_pos ok] at hT q1
        have u := (objGo_used (W := W) (fr := hFr W) 1000 (16 + hSp W * h) (by omega) (by omega) q1).2 (T.getD i 0) (by
          rw [← hT, List.getD_eq_getElem?_getD, List.getElem?_eq_getElem hi]
          exact List.getElem_mem hi)
        have z := osz_pos W (T.getD i 0)
        obtain ⟨n, hn⟩ := Int.eq_ofNat_of_zero_le (show 0 ≤ T.getD i 0 by omega)
        rw [hn] at u z ⊢
        rw [osz, Int.toNat_natCast] at u
        have hp := shOk_yes (pr_range (W.getD n 0))
        exact ⟨n, rfl, by omega, by omega, by omega⟩)
      have HPa := Lib.hid (fun v u => rparse_is v u)
      have hsp : hSp W = 0 ∨ hSp W = 1 := f2
      clear f1 f2 f4
      have hgc : hGc W = 0 ∨ hGc W = 1 := fg
      have hTl : (T.length : Int) ≤ 400 := by have := objs_len h l W; rw [← hT] at this; omega
      clear k hs eC q0 hT fg ok hWl hr
      generalize chkB h l W = z at *
      generalize hSp W = x0 at *
      generalize hFr W = x1 at *
      generalize hGc W = x2 at *
      generalize hSc W = x3 at *
      rcases hsc with ⟨s1, s1b⟩ | ⟨rfl, rfl⟩ | ⟨rfl, s2, s2b, s3⟩
      have hx : x2 = 0 := hgc.resolve_right s1
      subst hx
      all_goals
        go_enter Tryz.func20, Tryz.ntmps20
        go_wp2_with (first
          | (go_at_call 45; refine HO.out.mono ?_; rintro e w1 ⟨v, rfl, b1, o1⟩; have H1 := Lib.hid (CkS.mk b1 o1); clear b1 o1)
          | (go_at_call 39; refine (HC.out _ H1.out.b).mono ?_; rintro e w2 ⟨rfl, b2⟩; have H2 := Lib.hid (H1.out.next b2); clear b2)
          | (go_at_call 46; refine (HIz.out _ H2.out.b s3).mono ?_; rintro e w3 ⟨rfl, b3⟩; replace H2 := Lib.hid (H2.out.next b3); clear b3)
          | fail)
        go_loopw [9] (fun i wr => ∃ i' : Nat, i' ≤ 8 ∧ i = .int .i64 (i' : Int) ∧ Hid (∀ j, j < i' → W.getD (8 + j) 0 = 0 ∨ W.getD (8 + j) 0 ∈ T) ∧ Hid (CkS w v T wr)) (fun i _ => 8 - (intOf i).toNat)
        case atStart => exact ⟨0, Nat.zero_le _, rfl, Lib.hid (fun j hj => absurd hj (Nat.not_lt_zero j)), H2⟩
        case round =>
          clear H1 H2 HO HC HIz
          obtain ⟨i, hi, rfl, HJ, HW⟩ := hrel
          by_cases hlt : i < 8
          · have hiI : (i : Int) < 8 := by omega
            have d2 := HD.out _ HW.out.b
            have d3 := HE.out _ HW.out.b (8 + i) (by omega)
            have hx1 : 8 + (i : Int) < (W.length : Int) := by omega
            have hx2 : (0 : Int) ≤ 8 + (i : Int) := by omega
            have hx3 : (8 + (i : Int)).toNat = 8 + i := by omega
            have HIr := Lib.hid (fun u (y : Below w.heap.size w u) => HIs.out u y (W.getD (8 + i) 0))
            have HRi := Lib.hid (fun (hn : ¬ (W.getD (8 + i) 0 = 0 ∨ W.getD (8 + i) 0 ∈ T)) => HR0.out i hlt hn)
            have HJn : Hid ((W.getD (8 + i) 0 = 0 ∨ W.getD (8 + i) 0 ∈ T) → ∀ j, j < i + 1 → W.getD (8 + j) 0 = 0 ∨ W.getD (8 + j) 0 ∈ T) := Lib.hid (fun hh j hj => by
              by_cases e : j = i
              · rw [e]; exact hh
              · exact HJ.out j (by omega))
            have hi8 : i + 1 ≤ 8 := by omega
            generalize W.getD (8 + i) 0 = r at *
            have hwx : IntKind.i64.wrap (8 + (i : Int)) = 8 + (i : Int) := w64_nd (by omega) (by omega)
            by_cases r0 : r = 0
            · subst r0
              go_wp2_with fail
              exact ⟨⟨i + 1, hi8, by go_num, Lib.hid (HJn.out (.inl rfl)), HW⟩, by simp [intOf]; omega⟩
            · have r1 : (r == 0) = false := beq_eq_false_iff_ne.2 r0
              by_cases rT : r ∈ T
              · rw [decide_eq_true rT] at HIr
                go_wp2_with (go_at_call 46; refine (HIr.out _ HW.out.b).mono ?_; rintro e w4 ⟨rfl, b4⟩; have H4 := Lib.hid (HW.out.next b4); clear b4)
                exact ⟨⟨i + 1, hi8, by go_num, Lib.hid (HJn.out (.inr rT)), H4⟩, by simp [intOf]; omega⟩
              · rw [decide_eq_false rT] at HIr
                have hz := HRi.out (fun q => q.elim r0 rT)
                go_wp2_with (go_at_call 46; refine (HIr.out _ HW.out.b).mono ?_; rintro e w4 ⟨rfl, b4⟩; have H4 := Lib.hid (HW.out.next b4); clear b4)
                go_ret
                exact ⟨by subst hz; rfl, H4.out.b⟩
          · obtain rfl : i = 8 := by omega
            obtain ⟨va, vc, rfl⟩ := owns_slice HW.out.o
            have HJ8 := Lib.hid HJ.out
            clear HJ HR0 hlt hi
            go_wp2_with fail
            go_loopw [11] (fun i wr => ∃ i' : Nat, i' ≤ T.length ∧ i = .int .i64 (i' : Int) ∧ Hid (∀ j, j < i' → ∀ m, m < (prS (W.getD (T.getD j 0).toNat 0)).toNat → chkS h l W (T.getD j 0) (W.getD ((T.getD j 0 + 1).toNat + m) 0) = true) ∧ Hid (CkS w (.slice va T.length vc) T wr)) (fun i _ => T.length - (intOf i).toNat)
            case atStart => exact ⟨0, Nat.zero_le _, rfl, Lib.hid (fun j hj => absurd hj (Nat.not_lt_zero j)), HW⟩
            case round =>
              clear HW
              obtain ⟨i, hi, rfl, HI2, HW⟩ := hrel
              by_cases hlt : i < T.length
              · have hiI : (i : Int) < (T.length : Int) := by omega
                obtain ⟨g7, q7, e7, _, _, _⟩ := own_blk HW.out.o (by omega)
                obtain ⟨rfl, rfl⟩ : va = some ⟨g7, 0, none⟩ ∧ vc = q7 := by simpa using e7
                clear e7
                obtain ⟨n, hn, n16, nl, nf⟩ := HTn.out i hlt
                have hpr := shOk_yes (pr_range (W.getD n 0))
                obtain ⟨P, hP⟩ := Int.eq_ofNat_of_zero_le hpr.1
                have HS1 := Lib.hid (fun m (hm : m < P) => HS0.out i hlt m (by rw [hn, Int.toNat_natCast, hP]; exact hm))
                have HI3 : Hid ((∀ m, m < P → chkS h l W (n : Int) (W.getD (n + 1 + m) 0) = true) → ∀ j, j < i + 1 → ∀ m, m < (prS (W.getD (T.getD j 0).toNat 0)).toNat → chkS h l W (T.getD j 0) (W.getD ((T.getD j 0 + 1).toNat + m) 0) = true) := Lib.hid (fun hh j hj => by
                  by_cases e : j = i
                  · rw [e, hn, Int.toNat_natCast, hP, show ((n : Int) + 1).toNat = n + 1 by omega]
                    exact fun m hm => hh m hm
                  · exact HI2.out j (by omega))
                rw [hn, show ((n : Int) + 1).toNat = n + 1 by omega] at HS1
                have HE7 : Hid (∀ u, CkS w (.slice (some ⟨g7, 0, none⟩) T.length vc) T u → u.cell? ⟨b, 2, none⟩ = some (.slice (some ⟨g, 0, none⟩) W.length c) ∧ u.cell? ⟨g7, i, none⟩ = some (.int .i64 (n : Int)) ∧ u.cell? ⟨g, n, none⟩ = some (.int .i64 (W.getD n 0))) := Lib.hid (fun u x => ⟨HD.out _ x.b, (owns_cell x.o (show (vals T)[i]? = some (.int .i64 (n : Int)) by rw [← hn]; simp [vals, hlt])).1, HE.out _ x.b n nl⟩)
                have HPn := Lib.hid (HPa.out (W.getD n 0))
                have hnW : (n : Int) < (W.length : Int) := by omega
                have hn0 : (0 : Int) ≤ (n : Int) := by omega
                have hn1 : ¬ (W.length : Int) ≤ (n : Int) := by omega
                have hn2 : ¬ (n : Int) < 0 := by omega
                have hn3 : (n : Int).toNat = n := Int.toNat_natCast n
                have hi0 : (0 : Int) ≤ (i : Int) := by omega
                rw [hP] at HPn
                have hpw : 0 ≤ prW (W.getD n 0) ∧ prW (W.getD n 0) ≤ 30 := ⟨hpr.2.2.1, hpr.2.2.2⟩
                have hP15 : (P : Int) ≤ 15 := by omega
                rw [hP] at nf
                clear hpr hP
                generalize prW (W.getD n 0) = pw at *
                generalize hdOk (W.getD n 0) = hd at *
                generalize W.getD n 0 = hv at *
                obtain ⟨d2, d7, dh⟩ := HE7.out _ HW.out
                go_wp2_with fail
                go_region_held3 (fun u => (u.cell? ⟨b, 2, none⟩ = some (.slice (some ⟨g, 0, none⟩) W.length c) ∧ u.cell? ⟨g7, i, none⟩ = some (.int .i64 (n : Int)) ∧ u.cell? ⟨g, n, none⟩ = some (.int .i64 hv)) ∧ CkS w (.slice (some ⟨g7, 0, none⟩) T.length vc) T u) (first
                    | assumption
                    | exact ⟨HE7.out _ HW.out, HW.out⟩
                    | exact ⟨HE7.out _ (HW.out.next (Below.refl _ _).drew), HW.out.next (Below.refl _ _).drew⟩) (first
                  | (go_at_call 41; refine (HPn.out _).mono ?_; rintro e w' ⟨rfl, rfl⟩))
                rename_i hH
                have HW2 := Lib.hid hH.2
                clear hH d2 d7 dh HW
                go_wp2_with fail
                go_loopw [15] (fun i wr => ∃ m : Nat, m ≤ P ∧ i = .int .i64 (m : Int) ∧ Hid (∀ q, q < m → chkS h l W (n : Int) (W.getD (n + 1 + q) 0) = true) ∧ Hid (CkS w (.slice (some ⟨g7, 0, none⟩) T.length vc) T wr)) (fun i _ => P - (intOf i).toNat)
                case atStart => exact ⟨0, Nat.zero_le _, rfl, Lib.hid (fun q hq => absurd hq (Nat.not_lt_zero q)), HW2⟩
                case round =>
                  clear HW2
                  obtain ⟨m, hm, rfl, HM, HW3⟩ := hrel
                  by_cases hml : m < P
                  · have hmI : (m : Int) < (P : Int) := by omega
                    have hm1 : m + 1 ≤ P := by omega
                    have hk : n + 1 + m < W.length := by omega
                    have hkI : (n : Int) + 1 + (m : Int) < (W.length : Int) := by omega
                    have hk0 : (0 : Int) ≤ (n : Int) + 1 + (m : Int) := by omega
                    have hk3 : ((n : Int) + 1 + (m : Int)).toNat = n + 1 + m := by omega
                    have HMn : Hid (chkS h l W (n : Int) (W.getD (n + 1 + m) 0) = true → ∀ q, q < m + 1 → chkS h l W (n : Int) (W.getD (n + 1 + q) 0) = true) := Lib.hid (fun hh q hq => by
                      by_cases e : q = m
                      · rw [e]; exact hh
                      · exact HM.out q (by omega))
                    have HSm := Lib.hid (HS1.out m hml)
                    have HGv := Lib.hid (HG.out (n : Int) (W.getD (n + 1 + m) 0))
                    have HLv := Lib.hid (fun u y => HLk.out u y (W.getD (n + 1 + m) 0))
                    have HIv := Lib.hid (fun u y => HIs.out u y (W.getD (n + 1 + m) 0))
                    have HIt := Lib.hid (fun u y => HIs.out u y (lk h l W (W.getD (n + 1 + m) 0)).1)
                    have HNv := Lib.hid (fun u y => HIn.out u y (W.getD (n + 1 + m) 0))
                    have HE3 : Hid (∀ u, CkS w (.slice (some ⟨g7, 0, none⟩) T.length vc) T u → u.cell? ⟨b, 2, none⟩ = some (.slice (some ⟨g, 0, none⟩) W.length c) ∧ u.cell? ⟨g7, i, none⟩ = some (.int .i64 (n : Int)) ∧ u.cell? ⟨g, n + 1 + m, none⟩ = some (.int .i64 (W.getD (n + 1 + m) 0))) := Lib.hid (fun u x => ⟨(HE7.out u x).1, (HE7.out u x).2.1, HE.out _ x.b _ hk⟩)
                    generalize (lk h l W (W.getD (n + 1 + m) 0)).1 = tw at *
                    generalize (lk h l W (W.getD (n + 1 + m) 0)).2 = is at *
                    generalize inB h (1 - x0) (W.getD (n + 1 + m) 0) = nb at *
                    generalize chkS h l W (n : Int) (W.getD (n + 1 + m) 0) = cs at *
                    generalize (W.getD (n + 1 + m) 0) = v at *
                    obtain ⟨d2, d7, dv⟩ := HE3.out _ HW3.out
                    have dS := HSp.out _ HW3.out.b
                    have hmx : (m : Int) + 1 ≤ 16 := by omega
                    have hwa : IntKind.i64.wrap ((n : Int) + 1) = (n : Int) + 1 := w64_nd (by omega) (by omega)
                    have hwb : IntKind.i64.wrap ((n : Int) + 1 + (m : Int)) = (n : Int) + 1 + (m : Int) := w64_nd (by omega) (by omega)
                    by_cases v0 : v = 0
                    · subst v0
                      have hcs : cs = true := by rw [HGv.out, decide_eq_true (Or.inl rfl), Bool.true_or]
                      go_wp2_with fail
                      go_quiet (fail)
                      go_wp2_with fail
                      exact ⟨⟨m + 1, hm1, by go_num, Lib.hid (HMn.out hcs), Lib.hid (HW3.out.next (bel_drewN (Below.refl _ _) _))⟩, by simp [intOf]; omega⟩
                    · have v1 : (v == 0) = false := beq_eq_false_iff_ne.2 v0
                      by_cases vT : v ∈ T
                      · have hcs : cs = true := by rw [HGv.out, decide_eq_true (Or.inr vT), Bool.true_or]
                        rw [decide_eq_true vT] at HIv
                        go_wp2_with fail
                        go_quiet (fail)
                        go_wp2_with (go_at_call 46; with_reducible refine (HIv.out _ (HW3.out.next (bel_drewN (Below.refl _ _) _)).b).mono ?_; rintro e w5 ⟨rfl, b5⟩; have HW5 := Lib.hid ((HW3.out.next (bel_drewN (Below.refl _ _) _)).next b5); clear b5 d2 d7 dv; obtain ⟨d2, d7, dv⟩ := HE3.out _ HW5.out)
                        exact ⟨⟨m + 1, hm1, by go_num, Lib.hid (HMn.out hcs), HW5⟩, by simp [intOf]; omega⟩
                      · rw [decide_eq_false vT] at HIv
                        rw [decide_eq_false (show ¬ (v = 0 ∨ v ∈ T) from fun q => q.elim v0 vT), Bool.false_or] at HGv
                        first
                        | (have hcs : cs = false := by rw [HGv.out]; simp
                           have hz := HSm.out hcs
                           go_wp2_with fail
                           go_quiet (fail)
                           go_wp2_with (go_at_call 46; with_reducible refine (HIv.out _ (HW3.out.next (bel_drewN (Below.refl _ _) _)).b).mono ?_; rintro e w5 ⟨rfl, b5⟩; have HW5 := Lib.hid ((HW3.out.next (bel_drewN (Below.refl _ _) _)).next b5); clear b5 d2 d7 dv dS HIv; obtain ⟨d2, d7, dv⟩ := HE3.out _ HW5.out; have dS := HSp.out _ HW5.out.b)
                           go_ret
                           exact ⟨by subst hz; rfl, HW5.out.b⟩)
                        | (by_cases hns : (n : Int) < x3
                           · have hcs : cs = false := by rw [HGv.out, decide_eq_true (Or.inr hns)]; rfl
                             have hz := HSm.out hcs
                             go_wp2_with fail
                             go_quiet (fail)
                             go_wp2_with (go_at_call 46; with_reducible refine (HIv.out _ (HW3.out.next (bel_drewN (Below.refl _ _) _)).b).mono ?_; rintro e w5 ⟨rfl, b5⟩; have HW5 := Lib.hid ((HW3.out.next (bel_drewN (Below.refl _ _) _)).next b5); clear b5 d2 d7 dv dS HIv; obtain ⟨d2, d7, dv⟩ := HE3.out _ HW5.out; have dS := HSp.out _ HW5.out.b)
                             go_ret
                             exact ⟨by subst hz; rfl, HW5.out.b⟩
                           · rw [decide_eq_false (show ¬ ((1 : Int) = 0 ∨ (n : Int) < x3) from fun q => q.elim (by decide) hns), Bool.not_false, Bool.true_and] at HGv
                             have hwsp : IntKind.i64.wrap (1 - x0) = 1 - x0 := by rcases hsp with e | e <;> rw [e] <;> decide
                             cases is with
                             | false =>
                               rw [Bool.false_and] at HGv
                               have hz := HSm.out HGv.out
                               go_wp2_with fail
                               go_quiet (fail)
                               go_wp2_with (first | (go_at_call 46; with_reducible refine (HIv.out _ (HW3.out.next (bel_drewN (Below.refl _ _) _)).b).mono ?_; rintro e w5 ⟨rfl, b5⟩; have HW5 := Lib.hid ((HW3.out.next (bel_drewN (Below.refl _ _) _)).next b5); clear b5 d2 d7 dv dS HIv; obtain ⟨d2, d7, dv⟩ := HE3.out _ HW5.out; have dS := HSp.out _ HW5.out.b) | (go_at_call 47; with_reducible refine (HLv.out _ HW5.out.b).mono ?_; rintro e w6 ⟨rfl, b6⟩; replace HW5 := Lib.hid (HW5.out.next b6); clear b6 d2 d7 dv dS; obtain ⟨d2, d7, dv⟩ := HE3.out _ HW5.out; have dS := HSp.out _ HW5.out.b) | fail)
                               go_ret
                               exact ⟨by subst hz; rfl, HW5.out.b⟩
                             | true =>
                               rw [Bool.true_and] at HGv
                               by_cases tv : tw = v
                               · subst tv
                                 rw [if_pos rfl] at HGv
                                 cases nb with
                                 | false =>
                                   have hz := HSm.out HGv.out
                                   go_wp2_with fail
                                   go_quiet (fail)
                                   go_wp2_with (first | (go_at_call 46; with_reducible refine (HIv.out _ (HW3.out.next (bel_drewN (Below.refl _ _) _)).b).mono ?_; rintro e w5 ⟨rfl, b5⟩; have HW5 := Lib.hid ((HW3.out.next (bel_drewN (Below.refl _ _) _)).next b5); clear b5 d2 d7 dv dS HIv; obtain ⟨d2, d7, dv⟩ := HE3.out _ HW5.out; have dS := HSp.out _ HW5.out.b) | (go_at_call 47; with_reducible refine (HLv.out _ HW5.out.b).mono ?_; rintro e w6 ⟨rfl, b6⟩; replace HW5 := Lib.hid (HW5.out.next b6); clear b6 d2 d7 dv dS; obtain ⟨d2, d7, dv⟩ := HE3.out _ HW5.out; have dS := HSp.out _ HW5.out.b) | (go_at_call 48; with_reducible refine (HNv.out _ HW5.out.b).mono ?_; rintro e w7 ⟨rfl, b6⟩; replace HW5 := Lib.hid (HW5.out.next b6); clear b6 d2 d7 dv dS; obtain ⟨d2, d7, dv⟩ := HE3.out _ HW5.out; have dS := HSp.out _ HW5.out.b) | fail)
                                   go_ret
                                   exact ⟨by subst hz; rfl, HW5.out.b⟩
                                 | true =>
                                   have hcs := HGv.out
                                   go_wp2_with fail
                                   go_quiet (fail)
                                   go_wp2_with (first | (go_at_call 46; with_reducible refine (HIv.out _ (HW3.out.next (bel_drewN (Below.refl _ _) _)).b).mono ?_; rintro e w5 ⟨rfl, b5⟩; have HW5 := Lib.hid ((HW3.out.next (bel_drewN (Below.refl _ _) _)).next b5); clear b5 d2 d7 dv dS HIv; obtain ⟨d2, d7, dv⟩ := HE3.out _ HW5.out; have dS := HSp.out _ HW5.out.b) | (go_at_call 47; with_reducible refine (HLv.out _ HW5.out.b).mono ?_; rintro e w6 ⟨rfl, b6⟩; replace HW5 := Lib.hid (HW5.out.next b6); clear b6 d2 d7 dv dS; obtain ⟨d2, d7, dv⟩ := HE3.out _ HW5.out; have dS := HSp.out _ HW5.out.b) | (go_at_call 48; with_reducible refine (HNv.out _ HW5.out.b).mono ?_; rintro e w7 ⟨rfl, b6⟩; replace HW5 := Lib.hid (HW5.out.next b6); clear b6 d2 d7 dv dS; obtain ⟨d2, d7, dv⟩ := HE3.out _ HW5.out; have dS := HSp.out _ HW5.out.b) | fail)
                                   exact ⟨⟨m + 1, hm1, by go_num, Lib.hid (HMn.out hcs), HW5⟩, by simp [intOf]; omega⟩
                               · rw [if_neg tv] at HGv
                                 have tv1 : (tw == v) = false := beq_eq_false_iff_ne.2 tv
                                 by_cases tT : tw ∈ T
                                 · rw [decide_eq_true tT] at HGv HIt
                                   have hcs := HGv.out
                                   go_wp2_with fail
                                   go_quiet (fail)
                                   go_wp2_with (first | (go_at_call 46; with_reducible refine (HIv.out _ (HW3.out.next (bel_drewN (Below.refl _ _) _)).b).mono ?_; rintro e w5 ⟨rfl, b5⟩; have HW5 := Lib.hid ((HW3.out.next (bel_drewN (Below.refl _ _) _)).next b5); clear b5 d2 d7 dv dS HIv; obtain ⟨d2, d7, dv⟩ := HE3.out _ HW5.out; have dS := HSp.out _ HW5.out.b) | (go_at_call 47; with_reducible refine (HLv.out _ HW5.out.b).mono ?_; rintro e w6 ⟨rfl, b6⟩; replace HW5 := Lib.hid (HW5.out.next b6); clear b6 d2 d7 dv dS; obtain ⟨d2, d7, dv⟩ := HE3.out _ HW5.out; have dS := HSp.out _ HW5.out.b) | (go_at_call 46; with_reducible refine (HIt.out _ HW5.out.b).mono ?_; rintro e w7 ⟨rfl, b6⟩; replace HW5 := Lib.hid (HW5.out.next b6); clear b6 d2 d7 dv dS; obtain ⟨d2, d7, dv⟩ := HE3.out _ HW5.out; have dS := HSp.out _ HW5.out.b) | fail)
                                   exact ⟨⟨m + 1, hm1, by go_num, Lib.hid (HMn.out hcs), HW5⟩, by simp [intOf]; omega⟩
                                 · rw [decide_eq_false tT] at HGv HIt
                                   have hz := HSm.out HGv.out
                                   go_wp2_with fail
                                   go_quiet (fail)
                                   go_wp2_with (first | (go_at_call 46; with_reducible refine (HIv.out _ (HW3.out.next (bel_drewN (Below.refl _ _) _)).b).mono ?_; rintro e w5 ⟨rfl, b5⟩; have HW5 := Lib.hid ((HW3.out.next (bel_drewN (Below.refl _ _) _)).next b5); clear b5 d2 d7 dv dS HIv; obtain ⟨d2, d7, dv⟩ := HE3.out _ HW5.out; have dS := HSp.out _ HW5.out.b) | (go_at_call 47; with_reducible refine (HLv.out _ HW5.out.b).mono ?_; rintro e w6 ⟨rfl, b6⟩; replace HW5 := Lib.hid (HW5.out.next b6); clear b6 d2 d7 dv dS; obtain ⟨d2, d7, dv⟩ := HE3.out _ HW5.out; have dS := HSp.out _ HW5.out.b) | (go_at_call 46; with_reducible refine (HIt.out _ HW5.out.b).mono ?_; rintro e w7 ⟨rfl, b6⟩; replace HW5 := Lib.hid (HW5.out.next b6); clear b6 d2 d7 dv dS; obtain ⟨d2, d7, dv⟩ := HE3.out _ HW5.out; have dS := HSp.out _ HW5.out.b) | fail)
                                   go_ret
                                   exact ⟨by subst hz; rfl, HW5.out.b⟩)
                  · obtain rfl : m = P := by omega
                    have hnl : ¬ (m : Int) < (m : Int) := by omega
                    have hwi : IntKind.i64.wrap ((i : Int) + 1) = (i : Int) + 1 := w64_nd (by omega) (by omega)
                    go_wp2_with fail
                    refine ⟨?_, ?_⟩
                    · repeat apply Exists.intro
                      refine (fun b a => And.intro a b) ?_ ?_
                      · rfl
                      · exact ⟨i + 1, by omega, by go_num, Lib.hid (HI3.out HM.out), HW3⟩
                    · show T.length - (intOf (.int .i64 ((i : Int) + 1))).toNat < T.length - (intOf (.int .i64 (i : Int))).toNat
                      simp only [intOf]
                      omega
              · obtain rfl : i = T.length := by omega
                have hnl : ¬ (T.length : Int) < (T.length : Int) := by omega
                have hz := HT0.out (fun j hj => HJ8.out j hj) HI2.out
                go_wp2_with fail
                go_ret
                exact ⟨by subst hz; rfl, HW.out.b⟩
end
end Go.Proofs.YtbghglkplbnnkaaGreatDoor
