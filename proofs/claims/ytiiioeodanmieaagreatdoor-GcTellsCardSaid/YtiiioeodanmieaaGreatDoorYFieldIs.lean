import Derived.Test.YtiiioeodanmieaaGreatDoorYFollowA
import Derived.Test.YtiiioeodanmieaaGreatDoorYHeapB
set_option linter.unusedVariables false
set_option linter.unusedSimpArgs false
namespace Go.Proofs.YtiiioeodanmieaaGreatDoor
open Go.RowKit Sec
open Go.Proofs.YtiiioeodanmieaaGreatDoor.Bk

structure FsK (w w2 : World) (H L : Nat) (x0 x1 x2 x3 : Int) (u : World) : Prop where
  b : Below w.heap.size w u
  k : Kept6 w2 H L x0 x1 x2 x3 u
theorem FsK.below {w w2 u u' : World} {H L : Nat} {x0 x1 x2 x3 : Int} (x : FsK w w2 H L x0 x1 x2 x3 u) (y : Below u.heap.size u u') : FsK w w2 H L x0 x1 x2 x3 u' := ⟨geo_next x.b y, kept6_keep x.k y⟩
theorem FsK.start {w w2 : World} {H L : Nat} {x0 x1 x2 x3 : Int} (x : Below w.heap.size w w2) : FsK w w2 H L x0 x1 x2 x3 ((w2.alloc (.cells #[.int .i64 (H : Int), .int .i64 (L : Int)] 23)).alloc (.cells #[.int .i64 x0, .int .i64 x1, .int .i64 x2, .int .i64 x3] 84)) := by
  have z := kept6_made w2 H L x0 x1 x2 x3
  exact ⟨geo_next x z.2.2, z⟩
theorem FsK.cells {w w2 u : World} {H L : Nat} {x0 x1 x2 x3 : Int} (x : FsK w w2 H L x0 x1 x2 x3 u) :
    u.cell? ⟨w2.heap.size, 0, none⟩ = some (.int .i64 H) ∧ u.cell? ⟨w2.heap.size, 1, none⟩ = some (.int .i64 L) ∧ u.cell? ⟨w2.heap.size + 1, 0, none⟩ = some (.int .i64 x0) ∧ u.cell? ⟨w2.heap.size + 1, 1, none⟩ = some (.int .i64 x1) ∧ u.cell? ⟨w2.heap.size + 1, 2, none⟩ = some (.int .i64 x2) ∧ u.cell? ⟨w2.heap.size + 1, 3, none⟩ = some (.int .i64 x3) := x.k.1
def namE (h l : Int) (W : List Int) (a : Int) : Int := if a = 0 ∨ objB h l W a = true then 0 else 1
section
variable {B : Nat} {G : Nat → Prop} {w : World} {s H L : Nat} {W : List Int}
theorem wk_num (h : St B G w s H L W) (a : Int) : 0 ≤ wkC W (16 + 2 * H) a ∧ wkC W (16 + 2 * H) a < 4294967296 := by
  rw [wkC]
  split
  · exact h.num _
  · exact ⟨by decide, by decide⟩
set_option maxRecDepth 100000 in
set_option maxHeartbeats 2000000 in
theorem fnone_is (h : St B G w s H L W) : Calls Tryz.prog 131 #[.pointer (some ⟨s, 0, none⟩)] w fun e w' => e = .returned (.bool false) ∧ Below w.heap.size w w' := by
  have HG := Lib.hid (st_geo h)
  have HR := Lib.hid (fun u => gright_is H L u)
  rw [h.ok] at HR
  clear h
  go_enter Tryz.func131, Tryz.ntmps131
  go_wp2_with (first
    | (go_at_call 51; refine HG.out.mono ?_; rintro e w1 ⟨rfl, b1⟩; have H1 := Lib.hid b1; clear b1)
    | (go_at_call 148; refine (HR.out _).mono ?_; rintro e w2 ⟨rfl, b2⟩; have H2 := Lib.hid (geo_next H1.out b2); clear b2))
  go_ret
  exact ⟨rfl, H2.out⟩
set_option maxRecDepth 100000 in
set_option maxHeartbeats 8000000 in
theorem fshape_is (h : St B G w s H L W) (a : Int) : Calls Tryz.prog 147 #[.pointer (some ⟨s, 0, none⟩), .int .i64 a] w fun e w' => ∃ v, e = .returned (.tuple #[.int .i64 (shpS H L W a), .int .i64 (shpW H L W a), v]) ∧ ErrIs w' (shpE H L W a) v ∧ Below w.heap.size w w' := by
  have HSp := Lib.hid (fun u (y : Below w.heap.size w u) => spget_st (h.below y))
  have HGe := Lib.hid (fun u (y : Below w.heap.size w u) => st_geo (h.below y))
  have HNo := Lib.hid (fun u (y : Below w.heap.size w u) => fnone_is (h.below y))
  have HGet := Lib.hid (fun u (y : Below w.heap.size w u) => st_get (h.below y) a)
  have hv := wk_num h a
  have HPa := Lib.hid (oparse_is (wkC W (16 + 2 * H) a) (by omega) (by omega))
  have HR := Lib.hid (fun u => spright_is H L (hSp W) (hFr W) (hGc W) (hSc W) u)
  rw [show fineB H L (hSp W) (hFr W) (hGc W) (hSc W) = hOk H L W from rfl] at HR
  have HB := Lib.hid (Below.refl w.heap.size w)
  by_cases a0 : a = 0
  · have eE : shpE H L W a = 7 := by rw [shpE, if_pos a0]
    rw [shpS, shpW, eE, if_neg (by decide), if_neg (by decide)]
    subst a0
    clear eE h hv HR
    generalize wkC W (16 + 2 * H) 0 = v at *
    generalize hSp W = x0 at *
    generalize hFr W = x1 at *
    generalize hGc W = x2 at *
    generalize hSc W = x3 at *
    generalize prS v = ps at *
    generalize prW v = pw at *
    generalize hdOk v = hd at *
    go_enter Tryz.func147, Tryz.ntmps147
    go_wp2_with (first
      | (go_at_call 51; with_reducible refine (HGe.out _ HB.out).mono ?_; rintro e w1 ⟨rfl, b1⟩; have H1 := Lib.hid b1; clear b1)
      | (go_at_call 47; with_reducible refine (HSp.out _ H1.out).mono ?_; rintro e w2 ⟨rfl, b2⟩; have H2 := Lib.hid (FsK.start (H := H) (L := L) (x0 := x0) (x1 := x1) (x2 := x2) (x3 := x3) (geo_next H1.out b2)); clear b2)
      | (go_at_call 74; with_reducible refine (HGet.out _ H2.out.b).mono ?_; rintro e w3 ⟨rfl, b3⟩; have H3 := Lib.hid (H2.out.below b3); clear b3)
      | (go_at_call 156; refine (HPa.out _).mono ?_; rintro e w' ⟨rfl, hw⟩; obtain rfl : w3 = w' := hw.symm)
      | (go_at_call 131; with_reducible refine (HNo.out _ H3.out.b).mono ?_; rintro e w4 ⟨rfl, b4⟩; have H4 := Lib.hid (H3.out.below b4); clear b4)
      | (go_at_call 124; refine (new_err 7 0 _).mono ?_; rintro e w5 ⟨v5, rfl, b5, he5⟩; have H5 := Lib.hid (And.intro (H4.out.below b5) he5); clear b5 he5))
    go_ret3
    exact ⟨v5, rfl, H5.out.2, H5.out.1.b⟩
  cases hk : hOk H L W with
  | false =>
    have eE : shpE H L W a = 1 := by rw [shpE, if_neg a0, objB, hk, Bool.false_and, if_neg (by decide)]
    rw [shpS, shpW, eE, if_neg (by decide), if_neg (by decide)]
    rw [hk] at HR
    clear eE h hv hk HNo
    generalize wkC W (16 + 2 * H) a = v at *
    generalize hSp W = x0 at *
    generalize hFr W = x1 at *
    generalize hGc W = x2 at *
    generalize hSc W = x3 at *
    generalize prS v = ps at *
    generalize prW v = pw at *
    generalize hdOk v = hd at *
    go_enter Tryz.func147, Tryz.ntmps147
    go_wp2_with (first
      | (go_at_call 51; with_reducible refine (HGe.out _ HB.out).mono ?_; rintro e w1 ⟨rfl, b1⟩; have H1 := Lib.hid b1; clear b1)
      | (go_at_call 47; with_reducible refine (HSp.out _ H1.out).mono ?_; rintro e w2 ⟨rfl, b2⟩; have H2 := Lib.hid (FsK.start (H := H) (L := L) (x0 := x0) (x1 := x1) (x2 := x2) (x3 := x3) (geo_next H1.out b2)); clear b2)
      | (go_at_call 74; with_reducible refine (HGet.out _ H2.out.b).mono ?_; rintro e w3 ⟨rfl, b3⟩; have H3 := Lib.hid (H2.out.below b3); clear b3; obtain ⟨c0, c1, c2, c3, c4, c5⟩ := H3.out.cells)
      | (go_at_call 156; refine (HPa.out _).mono ?_; rintro e w' ⟨rfl, hw⟩; obtain rfl : w3 = w' := hw.symm)
      | (go_at_call 67; refine (HR.out _).mono ?_; rintro e w4 ⟨rfl, b4⟩; have H4 := Lib.hid (H3.out.below b4); clear b4 c0 c1 c2 c3 c4 c5)
      | (go_at_call 124; refine (new_err 1 a _).mono ?_; rintro e w5 ⟨v5, rfl, b5, he5⟩; have H5 := Lib.hid (And.intro (H4.out.below b5) he5); clear b5 he5))
    go_ret3
    exact ⟨v5, rfl, H5.out.2, H5.out.1.b⟩
  | true =>
    rw [hk] at HR
    obtain ⟨f1, f2, f3, f4, f5⟩ := fine_yes hk
    have hq := geOk_yes f1
    have HIn := Lib.hid (fun u => gin_is H L (hSp W) a u)
    rw [ge_in f1 f2] at HIn
    have hm : 0 ≤ hSp W * (H : Int) ∧ hSp W * (H : Int) ≤ H := by rcases f2 with e | e <;> rw [e] <;> omega
    cases hi : inB H (hSp W) a with
    | false =>
      have eE : shpE H L W a = 1 := by rw [shpE, if_neg a0, objB, hk, hi, Bool.false_and, Bool.and_false, if_neg (by decide)]
      rw [shpS, shpW, eE, if_neg (by decide), if_neg (by decide)]
      rw [hi] at HIn
      clear eE h hv hk HNo f1 f2 f3 f4 f5 hq hm hi
      generalize wkC W (16 + 2 * H) a = v at *
      generalize hSp W = x0 at *
      generalize hFr W = x1 at *
      generalize hGc W = x2 at *
      generalize hSc W = x3 at *
      generalize prS v = ps at *
      generalize prW v = pw at *
      generalize hdOk v = hd at *
      go_enter Tryz.func147, Tryz.ntmps147
      go_wp2_with (first
        | (go_at_call 51; with_reducible refine (HGe.out _ HB.out).mono ?_; rintro e w1 ⟨rfl, b1⟩; have H1 := Lib.hid b1; clear b1)
        | (go_at_call 47; with_reducible refine (HSp.out _ H1.out).mono ?_; rintro e w2 ⟨rfl, b2⟩; have H2 := Lib.hid (FsK.start (H := H) (L := L) (x0 := x0) (x1 := x1) (x2 := x2) (x3 := x3) (geo_next H1.out b2)); clear b2)
        | (go_at_call 74; with_reducible refine (HGet.out _ H2.out.b).mono ?_; rintro e w3 ⟨rfl, b3⟩; have H3 := Lib.hid (H2.out.below b3); clear b3; obtain ⟨c0, c1, c2, c3, c4, c5⟩ := H3.out.cells)
        | (go_at_call 156; refine (HPa.out _).mono ?_; rintro e w' ⟨rfl, hw⟩; obtain rfl : w3 = w' := hw.symm)
        | (go_at_call 67; refine (HR.out _).mono ?_; rintro e w4 ⟨rfl, b4⟩; have H4 := Lib.hid (H3.out.below b4); clear b4 c0 c1 c2 c3 c4 c5; obtain ⟨c0, c1, c2, c3, c4, c5⟩ := H4.out.cells)
        | (go_at_call 160; refine (HIn.out _).mono ?_; rintro e w6 ⟨rfl, b6⟩; have H6 := Lib.hid (H4.out.below b6); clear b6 c0 c1 c2 c3 c4 c5)
        | (go_at_call 124; refine (new_err 1 a _).mono ?_; rintro e w5 ⟨v5, rfl, b5, he5⟩; have H5 := Lib.hid (And.intro (H6.out.below b5) he5); clear b5 he5))
      go_ret3
      exact ⟨v5, rfl, H5.out.2, H5.out.1.b⟩
    | true =>
      have hib : 16 + hSp W * (H : Int) ≤ a ∧ a < 16 + hSp W * (H : Int) + H := of_decide_eq_true hi
      have ewk : wkC W (16 + 2 * H) a = W.getD a.toNat 0 := if_pos (by omega)
      rw [ewk] at HPa HGet
      rw [hi] at HIn
      have HSz := Lib.hid (osize_is (prS (W.getD a.toNat 0)) (prW (W.getD a.toNat 0)))
      rw [szI, if_pos (pr_range (W.getD a.toNat 0))] at HSz
      have hp := shOk_yes (pr_range (W.getD a.toNat 0))
      have hcase : (hdOk (W.getD a.toNat 0) = false ∧ shpE H L W a = 1) ∨ (hdOk (W.getD a.toNat 0) = true ∧ hFr W < a + (1 + prS (W.getD a.toNat 0) + prW (W.getD a.toNat 0)) ∧ shpE H L W a = 1) ∨ (hdOk (W.getD a.toNat 0) = true ∧ ¬ hFr W < a + (1 + prS (W.getD a.toNat 0) + prW (W.getD a.toNat 0)) ∧ shpE H L W a = 0) := by
        cases d : hdOk (W.getD a.toNat 0)
        · exact .inl ⟨rfl, by rw [shpE, if_neg a0, objB, hk, hi, d, Bool.false_and, Bool.and_false, Bool.and_false, Bool.and_false, if_neg (by decide)]⟩
        · by_cases e : hFr W < a + (1 + prS (W.getD a.toNat 0) + prW (W.getD a.toNat 0))
          · refine .inr (.inl ⟨rfl, e, ?_⟩)
            rw [shpE, if_neg a0, objB, hk, hi, d, decide_eq_false (show ¬ a + 1 + prS (W.getD a.toNat 0) + prW (W.getD a.toNat 0) ≤ hFr W by omega), Bool.and_false, Bool.and_false, Bool.and_false, Bool.and_false, if_neg (by decide)]
          · refine .inr (.inr ⟨rfl, e, ?_⟩)
            rw [shpE, if_neg a0, objB, hk, hi, d, decide_eq_true (show a + 1 + prS (W.getD a.toNat 0) + prW (W.getD a.toNat 0) ≤ hFr W by omega), decide_eq_true (show a < hFr W by omega)]
            exact if_pos rfl
      rw [shpS, shpW]
      have ha : 0 ≤ a ∧ a ≤ 816 := by omega
      clear h hv hk HNo f1 f2 f3 f4 f5 hq hm hi hib ewk
      generalize shpE H L W a = ee at *
      generalize W.getD a.toNat 0 = v at *
      generalize hSp W = x0 at *
      generalize hFr W = x1 at *
      generalize hGc W = x2 at *
      generalize hSc W = x3 at *
      generalize prS v = ps at *
      generalize prW v = pw at *
      generalize hdOk v = hd at *
      have hws : IntKind.i64.wrap (a + (1 + ps + pw)) = a + (1 + ps + pw) := by rw [IntKind.wrap_i64]; omega
      clear hp ha
      generalize (1 : Int) + ps + pw = sz at *
      rcases hcase with ⟨rfl, rfl⟩ | ⟨rfl, hfit, rfl⟩ | ⟨rfl, hfit, rfl⟩
      · rw [if_neg (by decide), if_neg (by decide)]
        go_enter Tryz.func147, Tryz.ntmps147
        go_wp2_with (first
          | (go_at_call 51; with_reducible refine (HGe.out _ HB.out).mono ?_; rintro e w1 ⟨rfl, b1⟩; have H1 := Lib.hid b1; clear b1)
          | (go_at_call 47; with_reducible refine (HSp.out _ H1.out).mono ?_; rintro e w2 ⟨rfl, b2⟩; have H2 := Lib.hid (FsK.start (H := H) (L := L) (x0 := x0) (x1 := x1) (x2 := x2) (x3 := x3) (geo_next H1.out b2)); clear b2)
          | (go_at_call 74; with_reducible refine (HGet.out _ H2.out.b).mono ?_; rintro e w3 ⟨rfl, b3⟩; have H3 := Lib.hid (H2.out.below b3); clear b3; obtain ⟨c0, c1, c2, c3, c4, c5⟩ := H3.out.cells)
          | (go_at_call 156; refine (HPa.out _).mono ?_; rintro e w' ⟨rfl, hw⟩; obtain rfl : w3 = w' := hw.symm)
          | (go_at_call 67; refine (HR.out _).mono ?_; rintro e w4 ⟨rfl, b4⟩; have H4 := Lib.hid (H3.out.below b4); clear b4 c0 c1 c2 c3 c4 c5; obtain ⟨c0, c1, c2, c3, c4, c5⟩ := H4.out.cells)
          | (go_at_call 160; refine (HIn.out _).mono ?_; rintro e w6 ⟨rfl, b6⟩; have H6 := Lib.hid (H4.out.below b6); clear b6 c0 c1 c2 c3 c4 c5)
          | (go_at_call 124; refine (new_err 1 a _).mono ?_; rintro e w5 ⟨v5, rfl, b5, he5⟩; have H5 := Lib.hid (And.intro (H6.out.below b5) he5); clear b5 he5))
        go_ret3
        exact ⟨v5, rfl, H5.out.2, H5.out.1.b⟩
      all_goals (first | rw [if_neg (by decide), if_neg (by decide)] | rw [if_pos rfl, if_pos rfl])
      all_goals
        go_enter Tryz.func147, Tryz.ntmps147
        go_wp2_with (first
          | (go_at_call 51; with_reducible refine (HGe.out _ HB.out).mono ?_; rintro e w1 ⟨rfl, b1⟩; have H1 := Lib.hid b1; clear b1)
          | (go_at_call 47; with_reducible refine (HSp.out _ H1.out).mono ?_; rintro e w2 ⟨rfl, b2⟩; have H2 := Lib.hid (FsK.start (H := H) (L := L) (x0 := x0) (x1 := x1) (x2 := x2) (x3 := x3) (geo_next H1.out b2)); clear b2)
          | (go_at_call 74; with_reducible refine (HGet.out _ H2.out.b).mono ?_; rintro e w3 ⟨rfl, b3⟩; have H3 := Lib.hid (H2.out.below b3); clear b3; obtain ⟨c0, c1, c2, c3, c4, c5⟩ := H3.out.cells)
          | (go_at_call 156; refine (HPa.out _).mono ?_; rintro e w' ⟨rfl, hw⟩; obtain rfl : w3 = w' := hw.symm)
          | (go_at_call 67; refine (HR.out _).mono ?_; rintro e w4 ⟨rfl, b4⟩; have H4 := Lib.hid (H3.out.below b4); clear b4 c0 c1 c2 c3 c4 c5; obtain ⟨c0, c1, c2, c3, c4, c5⟩ := H4.out.cells)
          | (go_at_call 160; refine (HIn.out _).mono ?_; rintro e w6 ⟨rfl, b6⟩; have H6 := Lib.hid (H4.out.below b6); clear b6 c0 c1 c2 c3 c4 c5; obtain ⟨_, _, _, c3, _, _⟩ := H6.out.cells))
        go_region_held3 (fun u => u.cell? ⟨w2.heap.size + 1, 1, none⟩ = some (.int .i64 x1) ∧ FsK w w2 H L x0 x1 x2 x3 u) (first
            | assumption
            | exact ⟨H6.out.cells.2.2.2.1, H6.out⟩
            | exact ⟨(H6.out.below (Below.refl _ _).drew).cells.2.2.2.1, H6.out.below (Below.refl _ _).drew⟩) (first
          | (go_at_call 66; refine (HSz.out _).mono ?_; rintro e w' ⟨rfl, rfl⟩))
        rename_i hH
        have H7 := Lib.hid hH.2
        clear hH c3
        go_wp2_with (go_at_call 124; refine (new_err 1 a _).mono ?_; rintro e w5 ⟨v5, rfl, b5, he5⟩; have H5 := Lib.hid (And.intro (H7.out.below b5) he5); clear b5 he5)
        go_ret3
      · exact ⟨v5, rfl, H5.out.2, H5.out.1.b⟩
      · exact ⟨.nilIface, rfl, errNil _, H7.out.b⟩
end
end Go.Proofs.YtiiioeodanmieaaGreatDoor
