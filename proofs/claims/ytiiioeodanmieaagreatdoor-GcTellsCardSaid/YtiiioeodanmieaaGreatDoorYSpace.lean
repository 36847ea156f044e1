import Derived.Test.YtiiioeodanmieaaGreatDoorYStoreG
import Derived.Test.YtiiioeodanmieaaGreatDoorYSpaceIs
set_option linter.unusedVariables false
set_option linter.unusedSimpArgs false
-- StoreNil
namespace Go.Proofs.YtiiioeodanmieaaGreatDoor
open Go.RowKit Sec
open Go.Proofs.YtiiioeodanmieaaGreatDoor.Bk

theorem none_nil (w : World) : Calls Tryz.prog 120 #[.pointer none] w fun e w' => e = .returned (.bool true) ∧ w' = w := by
  go_enter Tryz.func120, Tryz.ntmps120
  go_wp2
  go_ret
  exact ⟨rfl, rfl⟩
set_option maxRecDepth 100000 in
theorem super_nil (w : World) : Calls Tryz.prog 119 #[.pointer none] w fun e w' => e = .returned (.agg #[.int .i64 0, .int .i64 0, .int .i64 0, .int .i64 0, .int .i64 0]) ∧ Below w.heap.size w w' := by
  go_enter Tryz.func119, Tryz.ntmps119
  go_wp2_with (go_at_call 120; refine (none_nil _).mono ?_; rintro e w' ⟨rfl, rfl⟩)
  refine bodyPost_ret (results_cell1 (x := .agg #[.int .i64 0, .int .i64 0, .int .i64 0, .int .i64 0, .int .i64 0]) rfl rfl (by simp [go_sem])) rfl ?_
  exact ⟨rfl, (Below.refl _ _).alloc (Nat.le_refl _) _⟩
set_option maxRecDepth 100000 in
theorem geo_nil (w : World) : Calls Tryz.prog 51 #[.pointer none] w fun e w' => e = .returned (.agg #[.int .i64 0, .int .i64 0]) ∧ Below w.heap.size w w' := by
  have HS := Lib.hid (fun u => super_nil u)
  have HG := Lib.hid (fun u => geoOf_is ⟨0, 0, 0, 0, 0⟩ u)
  unfold Sup.val at HG
  go_enter Tryz.func51, Tryz.ntmps51
  go_wp2_with (first
    | (go_at_call 119
       refine (HS.out _).mono ?_
       rintro e w1 ⟨rfl, b1⟩
       have H1 := Lib.hid b1
       clear b1)
    | (go_at_call 118
       refine (HG.out _).mono ?_
       rintro e w2 ⟨rfl, b2⟩
       have b3 := geo_next H1.out b2
       have H2 := Lib.hid (GBox.laid b3)
       have c0 := H2.out.1.c0
       have c1 := H2.out.1.c1
       have f0 : w2.frozen? ⟨w.heap.size, 0, none⟩ = false := (b3.frozen (p := ⟨w.heap.size, 0, none⟩) (by simp)).trans (by simp)
       have f1 : w2.frozen? ⟨w.heap.size, 1, none⟩ = false := (b3.frozen (p := ⟨w.heap.size, 1, none⟩) (by simp)).trans (by simp)
       clear b2 b3))
  refine bodyPost_ret (results_cell1 rfl rfl (geo_set H2.out.1.c0 H2.out.1.c1 _ _)) rfl ?_
  exact ⟨rfl, set2_below H2.out.2 (Nat.le_refl _) _ _⟩
set_option maxRecDepth 100000 in
theorem has_nil (c : Int) (w : World) : Calls Tryz.prog 117 #[.pointer none, .int .i64 c] w fun e w' => e = .returned (.bool false) ∧ Below w.heap.size w w' := by
  have HG := Lib.hid (fun u => geo_nil u)
  have HC := Lib.hid (fun u => gcells_is 0 0 u)
  rw [show geCells 0 0 = 0 from rfl] at HC
  by_cases h : 0 ≤ c
  all_goals
    go_enter Tryz.func117, Tryz.ntmps117
    go_wp2_with (first
      | (go_at_call 51; refine (HG.out _).mono ?_; rintro e w1 ⟨rfl, b1⟩; have H1 := Lib.hid b1; clear b1)
      | (go_at_call 122; refine (HC.out _).mono ?_; rintro e w2 ⟨rfl, b2⟩; replace H1 := Lib.hid (geo_next H1.out b2); clear b2))
    go_ret
    first
      | exact ⟨geo_b (by simp <;> omega), H1.out⟩
      | exact ⟨geo_b (by simp <;> omega), Below.refl _ _⟩
set_option maxRecDepth 100000 in
theorem get_nil (c : Int) (w : World) : Calls Tryz.prog 74 #[.pointer none, .int .i64 c] w fun e w' => e = .returned (.int .i64 0) ∧ Below w.heap.size w w' := by
  have HH := Lib.hid (fun u => has_nil c u)
  go_enter Tryz.func74, Tryz.ntmps74
  go_wp2_with (go_at_call 117; refine (HH.out _).mono ?_; rintro e w1 ⟨rfl, b1⟩; have H1 := Lib.hid b1; clear b1)
  go_ret
  exact ⟨rfl, H1.out⟩
end Go.Proofs.YtiiioeodanmieaaGreatDoor
-- SpaceGet
namespace Go.Proofs.YtiiioeodanmieaaGreatDoor
open Go.RowKit Sec
open Go.Proofs.YtiiioeodanmieaaGreatDoor.Bk

def Kept4 (w : World) (sp fr gc sc : Int) (u : World) : Prop :=
  (u.cell? ⟨w.heap.size, 0, none⟩ = some (.int .i64 sp) ∧ u.cell? ⟨w.heap.size, 1, none⟩ = some (.int .i64 fr) ∧ u.cell? ⟨w.heap.size, 2, none⟩ = some (.int .i64 gc) ∧ u.cell? ⟨w.heap.size, 3, none⟩ = some (.int .i64 sc)) ∧ w.heap.size < u.heap.size ∧ Below w.heap.size w u
theorem kept4_made (w : World) (sp fr gc sc : Int) : Kept4 w sp fr gc sc (w.alloc (.cells #[.int .i64 sp, .int .i64 fr, .int .i64 gc, .int .i64 sc] 84)) := by
  have m := Row4.made w (.int .i64 sp) (.int .i64 fr) (.int .i64 gc) (.int .i64 sc) 84
  exact ⟨⟨m.c0, m.c1, m.c2, m.c3⟩, m.lt, (Below.refl _ _).alloc (Nat.le_refl _) _⟩
theorem kept4_keep {w u u' : World} {sp fr gc sc : Int} (x : Kept4 w sp fr gc sc u) (b : Below u.heap.size u u') : Kept4 w sp fr gc sc u' := by
  obtain ⟨⟨x2, x3, x4, x5⟩, x6, x7⟩ := x
  have c : ∀ k o, k < u.heap.size → u'.cell? ⟨k, o, none⟩ = u.cell? ⟨k, o, none⟩ := fun k o q => b.cell (p := ⟨k, o, none⟩) q
  exact ⟨⟨(c _ _ x6).trans x2, (c _ _ x6).trans x3, (c _ _ x6).trans x4, (c _ _ x6).trans x5⟩, Nat.lt_of_lt_of_le x6 b.size, geo_next x7 b⟩
theorem ge_end {h l sp : Int} (q : geOk h l = true) (hs : sp = 0 ∨ sp = 1) : geEnd h l sp = 16 + sp * h + h := by
  rw [geEnd, if_pos]
  rw [geHalf, q, Bool.true_and]
  exact decide_eq_true (by omega)
section
variable {w : World} {x : Option Addr} {gv : Int → Int} {h l : Int}
set_option maxRecDepth 100000 in
set_option maxHeartbeats 2000000 in
theorem spget_any (hg : ∀ c u, Below w.heap.size w u → Calls Tryz.prog 74 #[.pointer x, .int .i64 c] u fun e w' => e = .returned (.int .i64 (gv c)) ∧ Below u.heap.size u w') :
    Calls Tryz.prog 47 #[.pointer x] w fun e w' => e = .returned (.agg #[.int .i64 (gv 0), .int .i64 (gv 1), .int .i64 (gv 2), .int .i64 (gv 3)]) ∧ Below w.heap.size w w' := by
  have H0 := Lib.hid (hg 0)
  have H1 := Lib.hid (hg 1)
  have H2 := Lib.hid (hg 2)
  have H3 := Lib.hid (hg 3)
  have HM := Lib.hid (Row4.made w (.int .i64 0) (.int .i64 0) (.int .i64 0) (.int .i64 0) 84)
  have HB : Hid (Below w.heap.size w (w.alloc (.cells #[.int .i64 0, .int .i64 0, .int .i64 0, .int .i64 0] 84))) := Lib.hid ((Below.refl _ _).alloc (Nat.le_refl _) _)
  clear hg
  generalize gv 0 = g0 at *
  generalize gv 1 = g1 at *
  generalize gv 2 = g2 at *
  generalize gv 3 = g3 at *
  go_enter Tryz.func47, Tryz.ntmps47
  go_wp2_with (first
    | (go_at_call 74; refine (H0.out _ HB.out).mono ?_; rintro e w1 ⟨rfl, b1⟩; replace HM := Lib.hid (HM.out.below b1); replace HB := Lib.hid (geo_next HB.out b1); clear b1 H0)
    | (go_at_call 74; refine (H1.out _ HB.out).mono ?_; rintro e w2 ⟨rfl, b2⟩; replace HM := Lib.hid (HM.out.below b2); replace HB := Lib.hid (geo_next HB.out b2); clear b2 H1)
    | (go_at_call 74; refine (H2.out _ HB.out).mono ?_; rintro e w3 ⟨rfl, b3⟩; replace HM := Lib.hid (HM.out.below b3); replace HB := Lib.hid (geo_next HB.out b3); clear b3 H2)
    | (go_at_call 74; refine (H3.out _ HB.out).mono ?_; rintro e w4 ⟨rfl, b4⟩; replace HM := Lib.hid (HM.out.below b4); replace HB := Lib.hid (geo_next HB.out b4); obtain ⟨_, c0, c1, c2, c3, f0, f1, f2, f3⟩ := HM.out; clear b4 H3))
  refine bodyPost_ret (results_cell1 rfl rfl (HM.out.set4 _ _ _ _).load) rfl ?_
  exact ⟨rfl, Row4.kept HB.out (Nat.le_refl _)⟩
set_option maxRecDepth 100000 in
set_option maxHeartbeats 2000000 in
theorem spleft_any (hg : ∀ c u, Below w.heap.size w u → Calls Tryz.prog 74 #[.pointer x, .int .i64 c] u fun e w' => e = .returned (.int .i64 (gv c)) ∧ Below u.heap.size u w')
    (hq : ∀ u, Below w.heap.size w u → Calls Tryz.prog 51 #[.pointer x] u fun e w' => e = .returned (.agg #[.int .i64 h, .int .i64 l]) ∧ Below u.heap.size u w') :
    Calls Tryz.prog 44 #[.pointer x] w fun e w' => e = .returned (.int .i64 (if fineB h l (gv 0) (gv 1) (gv 2) (gv 3) then 16 + gv 0 * h + h - gv 1 else 0)) ∧ Below w.heap.size w w' := by
  have HG := Lib.hid (fun u (y : Below w.heap.size w u) => spget_any (w := u) (x := x) (gv := gv) (fun c v z => hg c v (geo_next y z)))
  have HQ := Lib.hid hq
  have HR := Lib.hid (fun u => spright_is h l (gv 0) (gv 1) (gv 2) (gv 3) u)
  have HE := Lib.hid (fun u => gend_is h l (gv 0) u)
  clear hg hq
  cases q : fineB h l (gv 0) (gv 1) (gv 2) (gv 3)
  · rw [if_neg (by decide)]
    rw [q] at HR
    clear q
    generalize gv 0 = g0 at *
    generalize gv 1 = g1 at *
    generalize gv 2 = g2 at *
    generalize gv 3 = g3 at *
    go_enter Tryz.func44, Tryz.ntmps44
    go_wp2_with (first
      | (go_at_call 51; refine (HQ.out _ (Below.refl _ _)).mono ?_; rintro e w1 ⟨rfl, b1⟩; have H1 := Lib.hid b1; clear b1)
      | (go_at_call 47; refine (HG.out _ H1.out).mono ?_; rintro e w2 ⟨rfl, b2⟩; have H2 := Lib.hid (geo_next H1.out b2); clear b2)
      | (go_at_call 67; refine (HR.out _).mono ?_; rintro e w3 ⟨rfl, b3⟩; have H3 := Lib.hid (kept6_keep (kept6_made w2 h l g0 g1 g2 g3) b3); clear b3))
    go_ret
    exact ⟨rfl, geo_next H2.out H3.out.2.2⟩
  · rw [if_pos rfl]
    rw [q] at HR
    obtain ⟨q1, q2, _, q3, _⟩ := fine_yes q
    have hq := geOk_yes q1
    rw [ge_end q1 q2] at HE
    have hb : 0 ≤ 16 + gv 0 * h ∧ 16 + gv 0 * h ≤ 1000 := by rcases q2 with e | e <;> rw [e] <;> omega
    clear q q1 q2
    generalize gv 0 = g0 at *
    generalize gv 1 = g1 at *
    generalize gv 2 = g2 at *
    generalize gv 3 = g3 at *
    generalize hB : 16 + g0 * h = b at *
    clear hB
    have hw : IntKind.i64.wrap (b + h - g1) = b + h - g1 := by rw [IntKind.wrap_i64]; omega
    clear q3 hq hb
    generalize hD : b + h = d at *
    clear hD
    go_enter Tryz.func44, Tryz.ntmps44
    go_wp2_with (first
      | (go_at_call 51; refine (HQ.out _ (Below.refl _ _)).mono ?_; rintro e w1 ⟨rfl, b1⟩; have H1 := Lib.hid b1; clear b1)
      | (go_at_call 47; refine (HG.out _ H1.out).mono ?_; rintro e w2 ⟨rfl, b2⟩; have H2 := Lib.hid (geo_next H1.out b2); clear b2)
      | (go_at_call 67; refine (HR.out _).mono ?_; rintro e w3 ⟨rfl, b3⟩; have H3 := Lib.hid (kept6_keep (kept6_made w2 h l g0 g1 g2 g3) b3); clear b3))
    go_region_held3 (fun u => (u.cell? ⟨w2.heap.size, 0, none⟩ = some (.int .i64 h) ∧ u.cell? ⟨w2.heap.size, 1, none⟩ = some (.int .i64 l) ∧ u.cell? ⟨w2.heap.size + 1, 0, none⟩ = some (.int .i64 g0) ∧ u.cell? ⟨w2.heap.size + 1, 1, none⟩ = some (.int .i64 g1) ∧ u.cell? ⟨w2.heap.size + 1, 2, none⟩ = some (.int .i64 g2) ∧ u.cell? ⟨w2.heap.size + 1, 3, none⟩ = some (.int .i64 g3)) ∧ w2.heap.size + 1 < u.heap.size ∧ Below w2.heap.size w2 u) (first
        | assumption
        | exact H3.out
        | exact kept6_keep H3.out (Below.refl _ _).drew
        | exact kept6_keep (by assumption) b4) (first
      | (go_at_call 110; refine (HE.out _).mono ?_; rintro e' w4 ⟨rfl, b4⟩))
    rename_i hH
    have HL := Lib.hid (geo_next H2.out hH.2.2)
    clear hH
    go_wp2_with fail
    go_ret
    exact ⟨rfl, HL.out⟩
set_option maxRecDepth 100000 in
set_option maxHeartbeats 2000000 in
theorem spused_any (hg : ∀ c u, Below w.heap.size w u → Calls Tryz.prog 74 #[.pointer x, .int .i64 c] u fun e w' => e = .returned (.int .i64 (gv c)) ∧ Below u.heap.size u w')
    (hq : ∀ u, Below w.heap.size w u → Calls Tryz.prog 51 #[.pointer x] u fun e w' => e = .returned (.agg #[.int .i64 h, .int .i64 l]) ∧ Below u.heap.size u w') :
    Calls Tryz.prog 39 #[.pointer x] w fun e w' => e = .returned (.int .i64 (if fineB h l (gv 0) (gv 1) (gv 2) (gv 3) then gv 1 - (16 + gv 0 * h) else 0)) ∧ Below w.heap.size w w' := by
  have HG := Lib.hid (fun u (y : Below w.heap.size w u) => spget_any (w := u) (x := x) (gv := gv) (fun c v z => hg c v (geo_next y z)))
  have HQ := Lib.hid hq
  have HR := Lib.hid (fun u => spright_is h l (gv 0) (gv 1) (gv 2) (gv 3) u)
  have HE := Lib.hid (fun u => gbase_is h l (gv 0) u)
  clear hg hq
  cases q : fineB h l (gv 0) (gv 1) (gv 2) (gv 3)
  · rw [if_neg (by decide)]
    rw [q] at HR
    clear q
    generalize gv 0 = g0 at *
    generalize gv 1 = g1 at *
    generalize gv 2 = g2 at *
    generalize gv 3 = g3 at *
    go_enter Tryz.func39, Tryz.ntmps39
    go_wp2_with (first
      | (go_at_call 51; refine (HQ.out _ (Below.refl _ _)).mono ?_; rintro e w1 ⟨rfl, b1⟩; have H1 := Lib.hid b1; clear b1)
      | (go_at_call 47; refine (HG.out _ H1.out).mono ?_; rintro e w2 ⟨rfl, b2⟩; have H2 := Lib.hid (geo_next H1.out b2); clear b2)
      | (go_at_call 67; refine (HR.out _).mono ?_; rintro e w3 ⟨rfl, b3⟩; have H3 := Lib.hid (kept6_keep (kept6_made w2 h l g0 g1 g2 g3) b3); clear b3))
    go_ret
    exact ⟨rfl, geo_next H2.out H3.out.2.2⟩
  · rw [if_pos rfl]
    rw [q] at HR
    obtain ⟨q1, q2, _, q3, _⟩ := fine_yes q
    have hq := geOk_yes q1
    rw [ge_base q1 q2] at HE
    have hb : 0 ≤ 16 + gv 0 * h ∧ 16 + gv 0 * h ≤ 1000 := by rcases q2 with e | e <;> rw [e] <;> omega
    clear q q1 q2
    generalize gv 0 = g0 at *
    generalize gv 1 = g1 at *
    generalize gv 2 = g2 at *
    generalize gv 3 = g3 at *
    generalize hB : 16 + g0 * h = b at *
    clear hB
    have hw : IntKind.i64.wrap (g1 - b) = g1 - b := by rw [IntKind.wrap_i64]; omega
    clear q3 hq hb
    generalize hD : b = d at *
    clear hD
    go_enter Tryz.func39, Tryz.ntmps39
    go_wp2_with (first
      | (go_at_call 51; refine (HQ.out _ (Below.refl _ _)).mono ?_; rintro e w1 ⟨rfl, b1⟩; have H1 := Lib.hid b1; clear b1)
      | (go_at_call 47; refine (HG.out _ H1.out).mono ?_; rintro e w2 ⟨rfl, b2⟩; have H2 := Lib.hid (geo_next H1.out b2); clear b2)
      | (go_at_call 67; refine (HR.out _).mono ?_; rintro e w3 ⟨rfl, b3⟩; have H3 := Lib.hid (kept6_keep (kept6_made w2 h l g0 g1 g2 g3) b3); clear b3))
    go_region_held3 (fun u => (u.cell? ⟨w2.heap.size, 0, none⟩ = some (.int .i64 h) ∧ u.cell? ⟨w2.heap.size, 1, none⟩ = some (.int .i64 l) ∧ u.cell? ⟨w2.heap.size + 1, 0, none⟩ = some (.int .i64 g0) ∧ u.cell? ⟨w2.heap.size + 1, 1, none⟩ = some (.int .i64 g1) ∧ u.cell? ⟨w2.heap.size + 1, 2, none⟩ = some (.int .i64 g2) ∧ u.cell? ⟨w2.heap.size + 1, 3, none⟩ = some (.int .i64 g3)) ∧ w2.heap.size + 1 < u.heap.size ∧ Below w2.heap.size w2 u) (first
        | assumption
        | exact H3.out
        | exact kept6_keep H3.out (Below.refl _ _).drew
        | exact kept6_keep (by assumption) b4) (first
      | (go_at_call 104; refine (HE.out _).mono ?_; rintro e' w4 ⟨rfl, b4⟩))
    rename_i hH
    have HL := Lib.hid (geo_next H2.out hH.2.2)
    clear hH
    go_wp2_with fail
    go_ret
    exact ⟨rfl, HL.out⟩
end
end Go.Proofs.YtiiioeodanmieaaGreatDoor
-- SpaceUse
namespace Go.Proofs.YtiiioeodanmieaaGreatDoor
open Go.RowKit Sec
open Go.Proofs.YtiiioeodanmieaaGreatDoor.Bk

def ctlW (W : List Int) (sp fr gc sc : Int) : List Int := (((W.set 0 sp).set 1 fr).set 2 gc).set 3 sc
theorem ctlW_len (W : List Int) (sp fr gc sc : Int) : (ctlW W sp fr gc sc).length = W.length := by simp [ctlW]
theorem ctl_at {W : List Int} {sp fr gc sc : Int} (h : 4 ≤ W.length) : hSp (ctlW W sp fr gc sc) = sp ∧ hFr (ctlW W sp fr gc sc) = fr ∧ hGc (ctlW W sp fr gc sc) = gc ∧ hSc (ctlW W sp fr gc sc) = sc := by
  match W, h with
  | a :: b :: c :: d :: W, _ => exact ⟨rfl, rfl, rfl, rfl⟩
theorem wk_ctl {W : List Int} {N : Nat} (h : 4 ≤ N) : wkC W N 0 = hSp W ∧ wkC W N 1 = hFr W ∧ wkC W N 2 = hGc W ∧ wkC W N 3 = hSc W :=
  ⟨if_pos (by omega), if_pos (by omega), if_pos (by omega), if_pos (by omega)⟩
section
variable {B : Nat} {G : Nat → Prop} {w : World} {s H L : Nat} {W : List Int}
theorem spget_st (h : St B G w s H L W) : Calls Tryz.prog 47 #[.pointer (some ⟨s, 0, none⟩)] w fun e w' => e = .returned (.agg #[.int .i64 (hSp W), .int .i64 (hFr W), .int .i64 (hGc W), .int .i64 (hSc W)]) ∧ Below w.heap.size w w' := by
  have := spget_any (w := w) (x := some ⟨s, 0, none⟩) (gv := fun c => wkC W (16 + 2 * H) c) (fun c u y => st_get (h.below y) c)
  obtain ⟨e0, e1, e2, e3⟩ := wk_ctl (W := W) (N := 16 + 2 * H) (by omega)
  simp only [e0, e1, e2, e3] at this
  exact this
theorem spleft_st (h : St B G w s H L W) : Calls Tryz.prog 44 #[.pointer (some ⟨s, 0, none⟩)] w fun e w' => e = .returned (.int .i64 (if hOk H L W then 16 + hSp W * H + H - hFr W else 0)) ∧ Below w.heap.size w w' := by
  have := spleft_any (w := w) (x := some ⟨s, 0, none⟩) (gv := fun c => wkC W (16 + 2 * H) c) (h := (H : Int)) (l := (L : Int)) (fun c u y => st_get (h.below y) c) (fun u y => st_geo (h.below y))
  obtain ⟨e0, e1, e2, e3⟩ := wk_ctl (W := W) (N := 16 + 2 * H) (by omega)
  simp only [e0, e1, e2, e3] at this
  exact this
theorem spused_st (h : St B G w s H L W) : Calls Tryz.prog 39 #[.pointer (some ⟨s, 0, none⟩)] w fun e w' => e = .returned (.int .i64 (if hOk H L W then hFr W - (16 + hSp W * H) else 0)) ∧ Below w.heap.size w w' := by
  have := spused_any (w := w) (x := some ⟨s, 0, none⟩) (gv := fun c => wkC W (16 + 2 * H) c) (h := (H : Int)) (l := (L : Int)) (fun c u y => st_get (h.below y) c) (fun u y => st_geo (h.below y))
  obtain ⟨e0, e1, e2, e3⟩ := wk_ctl (W := W) (N := 16 + 2 * H) (by omega)
  simp only [e0, e1, e2, e3] at this
  exact this
theorem St.keptG {w' : World} (h : St B G w s H L W) (b : Below w.heap.size w w') : KeptG G w w' := fun k g => b.block k (h.lt k g)
def SpS (B : Nat) (G : Nat → Prop) (w : World) (s H L : Nat) (sp fr gc sc : Int) (W : List Int) (u : World) : Prop :=
  (u.cell? ⟨w.heap.size, 0, none⟩ = some (.int .i64 sp) ∧ u.cell? ⟨w.heap.size, 1, none⟩ = some (.int .i64 fr) ∧ u.cell? ⟨w.heap.size, 2, none⟩ = some (.int .i64 gc) ∧ u.cell? ⟨w.heap.size, 3, none⟩ = some (.int .i64 sc)) ∧ St B (fun k => G k ∨ k = w.heap.size) u s H L W ∧ Below B w u ∧ KeptG G w u
theorem SpS.start {u : World} {sp fr gc sc : Int} (h : St B G w s H L W) (hl : B ≤ w.heap.size) (k : Kept4 w sp fr gc sc u) : SpS B G w s H L sp fr gc sc W u :=
  ⟨k.1, (h.more k.2.2).mono (fun b q => by rcases q with q | rfl; exact .inl q; exact .inr ⟨Nat.le_refl _, k.2.1⟩), k.2.2.mono hl, h.keptG k.2.2⟩
theorem SpS.step {u u' : World} {sp fr gc sc : Int} {V : List Int} (k : SpS B G w s H L sp fr gc sc W u) (h1 : St B (fun k => G k ∨ k = w.heap.size) u' s H L V) (h2 : Below B u u') (h3 : KeptG (fun k => G k ∨ k = w.heap.size) u u') : SpS B G w s H L sp fr gc sc V u' := by
  obtain ⟨⟨x0, x1, x2, x3⟩, _, x5, x6⟩ := k
  have c : ∀ o, u'.cell? ⟨w.heap.size, o, none⟩ = u.cell? ⟨w.heap.size, o, none⟩ := fun o => h3.cell _ (.inr rfl)
  exact ⟨⟨(c 0).trans x0, (c 1).trans x1, (c 2).trans x2, (c 3).trans x3⟩, h1, x5.trans h2, x6.trans (h3.mono fun b q => .inl q)⟩
set_option maxRecDepth 100000 in
set_option maxHeartbeats 4000000 in
theorem spset_yes (h : St B G w s H L W) (sp fr gc sc : Int) (hf : fineB H L sp fr gc sc = true) :
    Calls Tryz.prog 69 #[.pointer (some ⟨s, 0, none⟩), .agg #[.int .i64 sp, .int .i64 fr, .int .i64 gc, .int .i64 sc]] w fun e w' => e = .returned (.bool true) ∧ St B G w' s H L (ctlW W sp fr gc sc) ∧ Below B w w' ∧ KeptG G w w' := by
  have hge := h.ge
  have hle := h.le
  have hN : 4 ≤ 16 + 2 * H := by omega
  obtain ⟨q1, q2, q3, q4, q5⟩ := fine_yes hf
  have hb : 16 + sp * H ≤ 816 := by rcases q2 with e | e <;> rw [e] <;> omega
  have hb0 : 0 ≤ 16 + sp * H := by rcases q2 with e | e <;> rw [e] <;> omega
  have w0 : ∀ V : List Int, setW V (16 + 2 * H) 0 sp = V.set 0 sp := fun V => if_pos (decide_eq_true (by omega))
  have w1 : ∀ V : List Int, setW V (16 + 2 * H) 1 fr = V.set 1 fr := fun V => if_pos (decide_eq_true (by omega))
  have w2 : ∀ V : List Int, setW V (16 + 2 * H) 2 gc = V.set 2 gc := fun V => if_pos (decide_eq_true (by omega))
  have w3 : ∀ V : List Int, setW V (16 + 2 * H) 3 sc = V.set 3 sc := fun V => if_pos (decide_eq_true (by omega))
  have HW : Hid (setW (setW (setW (setW W (16 + 2 * H) 0 sp) (16 + 2 * H) 1 fr) (16 + 2 * H) 2 gc) (16 + 2 * H) 3 sc = ctlW W sp fr gc sc) := Lib.hid (by rw [w0, w1, w2, w3, ctlW])
  have HR := Lib.hid (fun u => spright_is H L sp fr gc sc u)
  rw [hf] at HR
  have HQ := Lib.hid (fun u (y : Below w.heap.size w u) => st_geo (h.below y))
  have HK := Lib.hid (kept4_made w sp fr gc sc)
  have HH := Lib.hid h
  have HL := Lib.hid hle
  clear hf hge hN q1 q2 q3 q4 q5 hb hb0 w0 w1 w2 w3 h hle
  generalize ctlW W sp fr gc sc = V at *
  go_enter Tryz.func69, Tryz.ntmps69
  go_wp2_with fail
  go_region_held3 (fun u => (u.cell? ⟨w.heap.size, 0, none⟩ = some (.int .i64 sp) ∧ u.cell? ⟨w.heap.size, 1, none⟩ = some (.int .i64 fr) ∧ u.cell? ⟨w.heap.size, 2, none⟩ = some (.int .i64 gc) ∧ u.cell? ⟨w.heap.size, 3, none⟩ = some (.int .i64 sc)) ∧ w.heap.size < u.heap.size ∧ Below w.heap.size w u) (first
      | assumption
      | exact HK.out
      | exact kept4_keep HK.out (Below.refl _ _).drew
      | exact kept4_keep (by assumption) b1
      | exact kept4_keep (by assumption) b2) (first
    | (go_at_call 51; refine (HQ.out _ (by first | exact HK.out.2.2 | exact HK.out.2.2.drew)).mono ?_; rintro e w1 ⟨rfl, b1⟩)
    | (go_at_call 67; refine (HR.out _).mono ?_; rintro e w2 ⟨rfl, b2⟩))
  rename_i hH
  have HS := Lib.hid (SpS.start HH.out HL.out hH)
  clear hH HK HQ HR HH HL
  have M0 := True.intro
  have M1 := True.intro
  have M2 := True.intro
  have M3 := True.intro
  obtain ⟨⟨x0, x1, x2, x3⟩, _⟩ := HS.out
  go_wp2_with (first
    | (go_at_call 50; clear M0; refine (st_set HS.out.2.1 0 sp).mono ?_; rintro e u1 ⟨rfl, h1, h2, h3⟩; replace HS := Lib.hid (HS.out.step h1 h2 h3); clear h1 h2 h3 x0 x1 x2 x3; obtain ⟨⟨_, x1, x2, x3⟩, _⟩ := HS.out)
    | (go_at_call 50; clear M1; refine (st_set HS.out.2.1 1 fr).mono ?_; rintro e u2 ⟨rfl, h1, h2, h3⟩; replace HS := Lib.hid (HS.out.step h1 h2 h3); clear h1 h2 h3 x1 x2 x3; obtain ⟨⟨_, _, x2, x3⟩, _⟩ := HS.out)
    | (go_at_call 50; clear M2; refine (st_set HS.out.2.1 2 gc).mono ?_; rintro e u3 ⟨rfl, h1, h2, h3⟩; replace HS := Lib.hid (HS.out.step h1 h2 h3); clear h1 h2 h3 x2 x3; obtain ⟨⟨_, _, _, x3⟩, _⟩ := HS.out)
    | (go_at_call 50; clear M3; refine (st_set HS.out.2.1 3 sc).mono ?_; rintro e u4 ⟨rfl, h1, h2, h3⟩; replace HS := Lib.hid (HS.out.step h1 h2 h3); clear h1 h2 h3 x3))
  go_ret
  obtain ⟨_, h1, h2, h3⟩ := HS.out
  rw [HW.out] at h1
  exact ⟨rfl, h1.mono (fun b q => .inl q), h2, h3⟩
end
theorem fine_zero (sp fr gc sc : Int) : fineB 0 0 sp fr gc sc = false := fine_no0 (by decide)
theorem spget_nil (w : World) : Calls Tryz.prog 47 #[.pointer none] w fun e w' => e = .returned (.agg #[.int .i64 0, .int .i64 0, .int .i64 0, .int .i64 0]) ∧ Below w.heap.size w w' :=
  spget_any (x := none) (gv := fun _ => 0) (fun c u _ => get_nil c u)
end Go.Proofs.YtiiioeodanmieaaGreatDoor
