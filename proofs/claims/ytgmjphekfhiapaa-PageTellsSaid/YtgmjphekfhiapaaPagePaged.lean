/- The document's own Paged. -/
import Derived.Test.YtgmjphekfhiapaaPageRef
namespace Go.Proofs.Ytgmjphekfhiapaa
open Go.RowKit
open Go.Proofs.Ytgmjphekfhiapaa.Bk

theorem join3 (x y z : ByteArray) : x ++ y ++ z = joinB [x, y, z] := ba_ext (by
  rw [joinB_list]; simp)
theorem out3 {x y z : ByteArray} (h : [x, y, z].any outT = true) : x.size ≠ 32 ∨ (x.size = 32 ∧ y.size ≠ 32) ∨ (x.size = 32 ∧ y.size = 32 ∧ z.size ≠ 32) := by
  simp [outT] at h
  omega
theorem in3 {x y z : ByteArray} (h : [x, y, z].any outT = false) : x.size = 32 ∧ y.size = 32 ∧ z.size = 32 := by
  simp [outT] at h
  exact h
theorem row3 {w : World} {g o : Nat} {x y z : ByteArray} (h : RowAt w g o [x, y, z]) : w.cell? ⟨g, o, none⟩ = some (.string x) ∧ w.cell? ⟨g, o + 1, none⟩ = some (.string y) ∧ w.cell? ⟨g, o + 2, none⟩ = some (.string z) :=
  ⟨h.cell 0 x rfl, h.cell 1 y rfl, h.cell 2 z rfl⟩

theorem nums_next (s : ByteArray) (k : Nat) (h : k < 16) : (nums s).take (k + 1) = (nums s).take k ++ [numAt s (k + 2)] := by
  rw [List.take_succ_eq_append_getElem (by rw [nums_len]; exact h)]
  simp [nums]

set_option maxRecDepth 100000 in
set_option maxHeartbeats 2000000 in
theorem rpaged_is (a : Option Addr) (l : List ByteArray) (c : Nat) (w : World) (h : LiesAt w a (txts l)) (hf : l.length = 3 → 3 ≤ c ∧ ∃ g o, a = some ⟨g, o, none⟩) :
    Calls Try.prog 13 #[.slice a l.length c] w fun e w' => ∃ x, e = .returned (.tuple #[.int .i64 (getN l), .int .i64 (getV l), x, .bool (pgIs l)]) ∧ Below w.heap.size w w' ∧ w'.ownsRow w.heap.size 3 1 x (getC l).length (vals (getC l)) := by
  have hB : Hid (Below w.heap.size w w) := Lib.hid (Below.refl _ _)
  by_cases h3 : l.length = 3
  · obtain ⟨_, g, o, rfl⟩ := hf h3
    obtain ⟨x, y, z, rfl⟩ := three h3
    obtain ⟨cx0, cx1, cx2⟩ := row3 h
    by_cases ha : [x, y, z].any outT = false
    · obtain ⟨s0, s1, s2⟩ := in3 ha
      have hs : (joinB [x, y, z]).size = 96 := joinB_size _ ha
      have HJ := Lib.hid (join3 x y z)
      have f1 : x.size + y.size ≤ 9223372036854775807 := by omega
      have f2 : (x ++ y).size + z.size ≤ 9223372036854775807 := by rw [ByteArray.size_append]; omega
      have m0 : (x.size : Int) = 32 := by omega
      have m1 : (y.size : Int) = 32 := by omega
      have m2 : (z.size : Int) = 32 := by omega
      have HO := Lib.hid (fun u => rOpen_is (joinB [x, y, z]) (by omega) u)
      have HH := Lib.hid h
      show Calls Try.prog 13 #[.slice (some ⟨g, o, none⟩) 3 c] w _
      by_cases hop : opens (joinB [x, y, z]) = true
      · have HQ := Lib.hid (And.intro (pg_neq h3 ha) (And.intro (get_yes (l := [x, y, z])) (And.intro (get_no (l := [x, y, z])) (pg_bad (l := [x, y, z])))))
        have hbs : (bodyOf (joinB [x, y, z])).size = 92 := by rw [bodyOf_size, hs]
        rw [hop, (opens_yes _ (of_decide_eq_true hop)).2] at HO
        have HG := Lib.hid (fun (k : Nat) (hk : k < 18) u => show Calls Try.prog 35 #[.string ((bodyOf (joinB [x, y, z])).extract (k * 4) ((k + 1) * 4))] u fun e w' => e = .returned (.int .i64 (numAt (joinB [x, y, z]) k)) ∧ w' = u from by
          rw [body_num _ hs k hk]
          exact rGet_is _ (by rw [ByteArray.size_extract]; unfold maxLen; omega) u)
        have HSL := Lib.hid (fun (k : Nat) (hk : k < 18) (lo hi : Int) (h0 : lo = ((k * 4 : Nat) : Int)) (h1 : hi = (((k + 1) * 4 : Nat) : Int)) u => slice_str (bodyOf (joinB [x, y, z])) lo hi (k * 4) ((k + 1) * 4) h0 h1 (by omega) (by omega) u)
        have HN := Lib.hid (nums_next (joinB [x, y, z]))
        have HNL := Lib.hid (nums_len (joinB [x, y, z]))
        obtain ⟨i0, hi, hz0, hz1, hz2⟩ := sl_info pg_intInfo
        have HI := Lib.hid (And.intro hi (And.intro hz0 (And.intro hz1 hz2)))
        clear hi hz0 hz1 hz2 hop hs s0 s1 s2 h hf h3
        generalize bodyOf (joinB [x, y, z]) = d at *
        go_enter Try.func13, Try.ntmps13
        go_wp2_with fail
        go_quiet (fail)
        go_wp2_with fail
        rw [HJ.out]
        refine (HO.out _).mono ?_
        rintro e w1 ⟨rfl, b1⟩
        replace hB := Lib.hid ((bel_drewN (Below.refl w.heap.size w) _).trans b1)
        clear b1
        go_wp2
        go_loopw [9, 10] (fun v i wr => ∃ k : Nat, k ≤ 16 ∧ i = .int .i64 (k : Int) ∧ Hid (Below w.heap.size w wr ∧ wr.ownsRow w.heap.size 3 1 v k (vals ((nums (joinB [x, y, z])).take k)))) (fun _ i _ => 16 - (intOf i).toNat)
        case atStart => exact ⟨0, Nat.zero_le _, rfl, Lib.hid ⟨hB.out, World.ownsRow_nil _ _ _ _⟩⟩
        case round =>
          obtain ⟨k, hk, rfl, HR⟩ := hrel
          by_cases hlt : k < 16
          · have hi1 : (k : Int) < 16 := by omega
            have hsl := HSL.out (k + 2) (by omega) (8 + 4 * (k : Int)) (12 + 4 * (k : Int)) (by omega) (by omega) wr
            have HGK := Lib.hid (fun u => HG.out (k + 2) (by omega) u)
            have hsz := HR.out.1.size
            have HNK := Lib.hid (HN.out k hlt)
            generalize numAt (joinB [x, y, z]) (k + 2) = n at *
            generalize d.extract ((k + 2) * 4) ((k + 2 + 1) * 4) = t at *
            go_wp2_with (first
              | (go_at_call 35; refine (HGK.out _).mono ?_; rintro e w2 ⟨rfl, hw⟩; obtain rfl := hw.symm)
              | (refine wpList_append_lies _ rfl (.tmp 61) (.tmp 71) 22 rfl w.heap.size 3 i0 _ 1 8 Try.underlying22 HI.out.1 HI.out.2.1 HI.out.2.2.1 HI.out.2.2.2 rfl (by omega) u9 k (vals ((nums (joinB [x, y, z])).take k)) rfl (HR.out.2.alloc _) _ 1 1 [.int .i64 n] rfl rfl (by exact World.news_of_block (heap_alloc_last _ _)) (by intro u hu; simp at hu; rw [hu]; rfl) (by omega) (by unfold maxLen; omega) (by omega) (by simp; omega) _ rfl ?_
                 intro g4 cap w4 hown4 hgr4 hat4 hlt4
                 have HX := Lib.hid (And.intro hown4 hgr4)
                 clear hown4 hgr4 hat4 hlt4))
            exact ⟨⟨k + 1, by omega, by go_num, Lib.hid ⟨(HR.out.1.alloc hsz _).grown HX.out.2 (by simp; omega) (fun b hb => (HR.out.2.lt b hb).1), by rw [HNK.out]; simpa [vals] using HX.out.1⟩⟩, by simp [intOf]; omega⟩
          · obtain rfl : k = 16 := by omega
            have hR := HR.out
            rw [List.take_of_length_le (by rw [HNL.out]; omega)] at hR
            obtain ⟨a1, c1, rfl, l1, _⟩ := own_form hR.2
            have HB := Lib.hid (And.intro hR.1 (And.intro hR.2 l1))
            have G0 : Hid (∀ u, Calls Try.prog 35 #[.string (d.extract 0 4)] u fun e w' => e = .returned (.int .i64 (numAt (joinB [x, y, z]) 0)) ∧ w' = u) := Lib.hid (fun u => HG.out 0 (by omega) u)
            have G1 : Hid (∀ u, Calls Try.prog 35 #[.string (d.extract 4 8)] u fun e w' => e = .returned (.int .i64 (numAt (joinB [x, y, z]) 1)) ∧ w' = u) := Lib.hid (fun u => HG.out 1 (by omega) u)
            have HPG := Lib.hid (fun u (q : LiesAt u a1 (vals (nums (joinB [x, y, z])))) => rpage_is (numAt (joinB [x, y, z]) 0) (numAt (joinB [x, y, z]) 1) a1 (nums (joinB [x, y, z])) c1 u q)
            rw [HNL.out] at HPG
            have hbs' : (d.size : Int) = 92 := by omega
            clear hR l1 hlt hk HR
            by_cases hok : pgOk (numAt (joinB [x, y, z]) 0) (numAt (joinB [x, y, z]) 1) (nums (joinB [x, y, z])) = true
            · have hq := HQ.out.1 hok
              have hpb := pgB_size (numAt (joinB [x, y, z]) 0) (numAt (joinB [x, y, z]) 1) (nums (joinB [x, y, z])) HNL.out
              rw [hok, pgL_yes hok] at HPG
              have HSUM := Lib.hid (join3 (part (pgB (numAt (joinB [x, y, z]) 0) (numAt (joinB [x, y, z]) 1) (nums (joinB [x, y, z]))) 0) (part (pgB (numAt (joinB [x, y, z]) 0) (numAt (joinB [x, y, z]) 1) (nums (joinB [x, y, z]))) 1) (part (pgB (numAt (joinB [x, y, z]) 0) (numAt (joinB [x, y, z]) 1) (nums (joinB [x, y, z]))) 2))
              have hsum := join_parts _ hpb
              obtain ⟨z0, z1, z2⟩ := in3 (parts_size _ hpb)
              have hbeq : ((pgB (numAt (joinB [x, y, z]) 0) (numAt (joinB [x, y, z]) 1) (nums (joinB [x, y, z]))).toList == (joinB [x, y, z]).toList) = pgIs [x, y, z] := by
                rw [Bool.eq_iff_iff, beq_iff_eq]
                refine ⟨fun q => hq.2 ?_, fun q => ?_⟩
                · rw [str_ext q]; exact parts_join _ rfl ha
                · rw [← join_parts _ hpb, hq.1 q]
              rw [parts] at hsum HPG
              rw [hsum] at HSUM
              have hy0 := HQ.out.2.1
              have hy1 := HQ.out.2.2.1
              have HE := Lib.hid (And.intro hy0 hy1)
              have HBQ := Lib.hid hbeq
              clear hok hq hpb hsum hbeq hy0 hy1 HQ
              generalize pgB (numAt (joinB [x, y, z]) 0) (numAt (joinB [x, y, z]) 1) (nums (joinB [x, y, z])) = pb at *
              generalize part pb 0 = p0 at *
              generalize part pb 1 = p1 at *
              generalize part pb 2 = p2 at *
              generalize numAt (joinB [x, y, z]) 0 = n0 at *
              generalize numAt (joinB [x, y, z]) 1 = n1 at *
              generalize nums (joinB [x, y, z]) = ns at *
              have k1 : p0.size + p1.size ≤ 9223372036854775807 := by omega
              have k2 : (p0 ++ p1).size + p2.size ≤ 9223372036854775807 := by rw [ByteArray.size_append]; omega
              clear z0 z1 z2 ha f1 f2 m0 m1 m2 cx0 cx1 cx2
              cases hi : pgIs [x, y, z] with
              | true =>
                rw [hi] at HBQ HE
                have hbq := HBQ.out
                have HF := Lib.hid (And.intro hi (HE.out.1 rfl))
                clear HBQ hi HE
                go_wp2_with fail
                go_quiet (first | (go_at_call 35; with_reducible exact Calls.quiet_of_same (G0.out _)) | (go_at_call 35; with_reducible exact Calls.quiet_of_same (G1.out _)))
                go_wp2_with (go_at_call 8
                             refine (HPG.out _ (HB.out.2.2.below (bel_drewN (Below.refl _ _) _))).mono ?_
                             rintro e w2 ⟨t, rfl, b2, o2⟩
                             obtain ⟨g1, c2, rfl, l2⟩ := own_some o2 (show 0 < 3 by omega)
                             obtain ⟨r0, r1, r2⟩ := row3 l2
                             rw [Nat.zero_add] at r1 r2
                             replace HB := Lib.hid (And.intro ((bel_drewN HB.out.1 _).trans (b2.mono (by have := HB.out.1.size; exact this))) (owns_below HB.out.2.1 ((bel_drewN (Below.refl _ _) _).trans b2)))
                             clear b2 o2 l2)
                rw [← HSUM.out] at hbq
                go_quiet (fail)
                go_wp2
                (try simp only [Exit.inBlock, Exit.then])
                refine bodyPost_ret (results_tmp4 rfl _ _ _) rfl ?_
                rw [HF.out.1, HF.out.2.1, HF.out.2.2.1, HF.out.2.2.2, HNL.out]
                exact ⟨_, rfl, bel_drewN HB.out.1 _, HB.out.2⟩
              | false =>
                rw [hi] at HBQ HE
                have hbq := HBQ.out
                have HF := Lib.hid (And.intro hi (HE.out.2 rfl))
                clear HBQ hi HE
                go_wp2_with fail
                go_quiet (first | (go_at_call 35; with_reducible exact Calls.quiet_of_same (G0.out _)) | (go_at_call 35; with_reducible exact Calls.quiet_of_same (G1.out _)))
                go_wp2_with (go_at_call 8
                             refine (HPG.out _ (HB.out.2.2.below (bel_drewN (Below.refl _ _) _))).mono ?_
                             rintro e w2 ⟨t, rfl, b2, o2⟩
                             obtain ⟨g1, c2, rfl, l2⟩ := own_some o2 (show 0 < 3 by omega)
                             obtain ⟨r0, r1, r2⟩ := row3 l2
                             rw [Nat.zero_add] at r1 r2
                             replace HB := Lib.hid (And.intro ((bel_drewN HB.out.1 _).trans (b2.mono (by have := HB.out.1.size; exact this))) (owns_below HB.out.2.1 ((bel_drewN (Below.refl _ _) _).trans b2)))
                             clear b2 o2 l2)
                rw [← HSUM.out] at hbq
                go_quiet (fail)
                go_wp2
                (try simp only [Exit.inBlock, Exit.then])
                refine bodyPost_ret (results_tmp4 rfl _ _ _) rfl ?_
                rw [HF.out.1, HF.out.2.1, HF.out.2.2.1, HF.out.2.2.2]
                exact ⟨_, rfl, bel_drewN HB.out.1 _, World.ownsRow_nil _ _ _ _⟩
            · have hi := HQ.out.2.2.2 (fun q => hok q.2.2)
              obtain ⟨e1, e2, e3⟩ := HQ.out.2.2.1 hi
              have HE := Lib.hid (And.intro hi (And.intro e1 (And.intro e2 e3)))
              have hok : pgOk (numAt (joinB [x, y, z]) 0) (numAt (joinB [x, y, z]) 1) (nums (joinB [x, y, z])) = false := eq_false_of_ne_true hok
              rw [hok] at HPG
              clear hok hi e1 e2 e3 HQ
              generalize numAt (joinB [x, y, z]) 0 = n0 at *
              generalize numAt (joinB [x, y, z]) 1 = n1 at *
              generalize nums (joinB [x, y, z]) = ns at *
              go_wp2_with fail
              go_quiet (first | (go_at_call 35; with_reducible exact Calls.quiet_of_same (G0.out _)) | (go_at_call 35; with_reducible exact Calls.quiet_of_same (G1.out _)))
              go_wp2_with (go_at_call 8; refine (HPG.out _ (HB.out.2.2.below (bel_drewN (Below.refl _ _) _))).mono ?_; rintro e w2 ⟨t, rfl, b2, _⟩; replace HB := Lib.hid ((bel_drewN HB.out.1 _).trans (b2.mono (by have := HB.out.1.size; exact this))); clear b2)
              go_quiet (fail)
              go_wp2
              all_goals
                (try simp only [Exit.inBlock, Exit.then])
                refine bodyPost_ret (results_tmp4 rfl _ _ _) rfl ?_
                rw [HE.out.1, HE.out.2.1, HE.out.2.2.1, HE.out.2.2.2]
                exact ⟨_, rfl, bel_drewN HB.out _, World.ownsRow_nil _ _ _ _⟩
      · obtain ⟨e1, e2, e3⟩ := get_no (l := [x, y, z]) (Bool.eq_false_iff.2 (fun q => hop (is_opens q)))
        have hi : pgIs [x, y, z] = false := Bool.eq_false_iff.2 (fun q => hop (is_opens q))
        rw [e1, e2, e3, hi]
        rw [Bool.eq_false_iff.2 hop] at HO
        clear e1 e2 e3 hi hop hs s0 s1 s2 ha h hf h3
        generalize openS (joinB [x, y, z]) = d at *
        generalize joinB [x, y, z] = s at *
        go_enter Try.func13, Try.ntmps13
        go_wp2_with fail
        go_quiet (fail)
        go_wp2_with fail
        rw [HJ.out]
        refine (HO.out _).mono ?_
        rintro e w1 ⟨rfl, b1⟩
        replace hB := Lib.hid ((bel_drewN (Below.refl w.heap.size w) _).trans b1)
        clear b1
        go_wp2
        all_goals
          (try simp only [Exit.inBlock, Exit.then])
          refine bodyPost_ret (results_tmp4 rfl _ _ _) rfl ?_
          exact ⟨_, rfl, hB.out, World.ownsRow_nil _ _ _ _⟩
    · obtain ⟨e1, e2, e3⟩ := get_no (pg_bad (l := [x, y, z]) (fun q => ha q.2.1))
      have hi := pg_bad (l := [x, y, z]) (fun q => ha q.2.1)
      have ha := out3 (eq_true_of_ne_false ha)
      rw [e1, e2, e3, hi]
      clear e1 e2 e3 hi h hf h3
      rcases ha with h0 | ⟨h0, h1⟩ | ⟨h0, h1, h2⟩
      · have n0 : ((x.size : Int) == 32) = false := by simp; omega
        have n1 : ((x.size : Int) != 32) = true := by simp; omega
        clear h0
        show Calls Try.prog 13 #[.slice (some ⟨g, o, none⟩) 3 c] w _
        go_enter Try.func13, Try.ntmps13
        go_wp2
        all_goals
          (try simp only [Exit.inBlock, Exit.then])
          refine bodyPost_ret (results_tmp4 rfl _ _ _) rfl ?_
          exact ⟨_, rfl, hB.out, World.ownsRow_nil _ _ _ _⟩
      · have m0 : (x.size : Int) = 32 := by omega
        have n0 : ((y.size : Int) == 32) = false := by simp; omega
        have n1 : ((y.size : Int) != 32) = true := by simp; omega
        clear h0 h1
        show Calls Try.prog 13 #[.slice (some ⟨g, o, none⟩) 3 c] w _
        go_enter Try.func13, Try.ntmps13
        go_wp2
        all_goals
          (try simp only [Exit.inBlock, Exit.then])
          refine bodyPost_ret (results_tmp4 rfl _ _ _) rfl ?_
          exact ⟨_, rfl, hB.out, World.ownsRow_nil _ _ _ _⟩
      · have m0 : (x.size : Int) = 32 := by omega
        have m1 : (y.size : Int) = 32 := by omega
        have n0 : ((z.size : Int) == 32) = false := by simp; omega
        have n1 : ((z.size : Int) != 32) = true := by simp; omega
        clear h0 h1 h2
        show Calls Try.prog 13 #[.slice (some ⟨g, o, none⟩) 3 c] w _
        go_enter Try.func13, Try.ntmps13
        go_wp2
        all_goals
          (try simp only [Exit.inBlock, Exit.then])
          refine bodyPost_ret (results_tmp4 rfl _ _ _) rfl ?_
          exact ⟨_, rfl, hB.out, World.ownsRow_nil _ _ _ _⟩
  · obtain ⟨e1, e2, e3⟩ := get_no (pg_bad (l := l) (fun q => h3 q.1))
    have hi := pg_bad (l := l) (fun q => h3 q.1)
    rw [e1, e2, e3, hi]
    have hl3 : ((l.length : Int) == 3) = false := by simp; omega
    have hl4 : ((l.length : Int) != 3) = true := by simp; omega
    clear h hf h3 e1 e2 e3 hi
    go_enter Try.func13, Try.ntmps13
    go_wp2
    all_goals
      (try simp only [Exit.inBlock, Exit.then])
      refine bodyPost_ret (results_tmp4 rfl _ _ _) rfl ?_
      exact ⟨_, rfl, hB.out, World.ownsRow_nil _ _ _ _⟩
end Go.Proofs.Ytgmjphekfhiapaa
