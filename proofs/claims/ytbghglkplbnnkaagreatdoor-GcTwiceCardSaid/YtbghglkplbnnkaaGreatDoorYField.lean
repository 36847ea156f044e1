import Derived.Test.YtbghglkplbnnkaaGreatDoorYFollowA
import Derived.Test.YtbghglkplbnnkaaGreatDoorYHeapB
import Derived.Test.YtbghglkplbnnkaaGreatDoorYHeapC
set_option linter.unusedVariables false
set_option linter.unusedSimpArgs false
-- FieldIs
namespace Go.Proofs.YtbghglkplbnnkaaGreatDoor
open Go.RowKit Sec
open Go.Proofs.YtbghglkplbnnkaaGreatDoor.Bk

structure FsK (w w2 : World) (H L : Nat) (x0 x1 x2 x3 : Int) (u : World) : Prop where
  b : Below w.heap.size w u
  k : Kept6 w2 H L x0 x1 x2 x3 u
theorem FsK.below {w w2 u u' : World} {H L : Nat} {x0 x1 x2 x3 : Int} (x : FsK w w2 H L x0 x1 x2 x3 u) (y : Below u.heap.size u u') : FsK w w2 H L x0 x1 x2 x3 u' := ⟨geo_next x.b y, kept6_keep x.k y⟩
theorem FsK.start {w w2 : World} {H L : Nat} {x0 x1 x2 x3 : Int} (x : Below w.heap.size w w2) : FsK w w2 H L x0 x1 x2 x3 ((w2.alloc (.cells #[.int .i64 (H : Int), .int .i64 (L : Int)] 23)).alloc (.cells #[.int .i64 x0, .int .i64 x1, .int .i64 x2, .int .i64 x3] 56)) := by
  have z := kept6_made w2 H L x0 x1 x2 x3
  exact ⟨geo_next x z.2.2, z⟩
theorem FsK.cells {w w2 u : World} {H L : Nat} {x0 x1 x2 x3 : Int} (x : FsK w w2 H L x0 x1 x2 x3 u) :
    u.cell? ⟨w2.heap.size, 0, none⟩ = some (.int .i64 H) ∧ u.cell? ⟨w2.heap.size, 1, none⟩ = some (.int .i64 L) ∧ u.cell? ⟨w2.heap.size + 1, 0, none⟩ = some (.int .i64 x0) ∧ u.cell? ⟨w2.heap.size + 1, 1, none⟩ = some (.int .i64 x1) ∧ u.cell? ⟨w2.heap.size + 1, 2, none⟩ = some (.int .i64 x2) ∧ u.cell? ⟨w2.heap.size + 1, 3, none⟩ = some (.int .i64 x3) := x.k.1
def namE (h l : Int) (W : List Int) (a : Int) : Int := if a = 0 ∨ objB h l W a = true then 0 else 1
section
variable {B : Nat} {G : Nat → Prop} {w : World} {s H L : Nat} {W : List Int}
theorem wk_num (h : St B G w s H L W) (a : Int) : 0 ≤ wkC W (16 + 2 * H) a ∧ wkC W (16 + 2 * H) a < 4294967296 := by
  rw [wkC]
  split
  · exact h.num _
  · exact ⟨by decide, by decide⟩
set_option maxRecDepth 100000 in
set_option maxHeartbeats 2000000 in
theorem fnone_is (h : St B G w s H L W) : Calls Tryz.prog 85 #[.pointer (some ⟨s, 0, none⟩)] w fun e w' => e = .returned (.bool false) ∧ Below w.heap.size w w' := by
  have HG := Lib.hid (st_geo h)
  have HR := Lib.hid (fun u => gright_is H L u)
  rw [h.ok] at HR
  clear h
  go_enter Tryz.func85, Tryz.ntmps85
  go_wp2_with (first
    | (go_at_call 37; refine HG.out.mono ?_; rintro e w1 ⟨rfl, b1⟩; have H1 := Lib.hid b1; clear b1)
    | (go_at_call 86; refine (HR.out _).mono ?_; rintro e w2 ⟨rfl, b2⟩; have H2 := Lib.hid (geo_next H1.out b2); clear b2))
  go_ret
  exact ⟨rfl, H2.out⟩
set_option maxRecDepth 100000 in
set_option maxHeartbeats 8000000 in
theorem fshape_is (h : St B G w s H L W) (a : Int) : Calls Tryz.prog 83 #[.pointer (some ⟨s, 0, none⟩), .int .i64 a] w fun e w' => ∃ v, e = .returned (.tuple #[.int .i64 (shpS H L W a), .int .i64 (shpW H L W a), v]) ∧ ErrIs w' (shpE H L W a) v ∧ Below w.heap.size w w' := by
  have HSp := Lib.hid (fun u (y : Below w.heap.size w u) => spget_st (h.below y))
  have HGe := Lib.hid (fun u (y : Below w.heap.size w u) => st_geo (h.below y))
  have HNo := Lib.hid (fun u (y : Below w.heap.size w u) => fnone_is (h.below y))
  have HGet := Lib.hid (fun u (y : Below w.heap.size w u) => st_get (h.below y) a)
  have hv := wk_num h a
  have HPa := Lib.hid (oparse_is (wkC W (16 + 2 * H) a) (by omega) (by omega))
  have HR := Lib.hid (fun u => spright_is H L (hSp W) (hFr W) (hGc W) (hSc W) u)
  rw [show fineB H L (hSp W) (hFr W) (hGc W) (hSc W) = hOk H L W from rfl] at HR
  have HB := Lib.hid (Below.refl w.heap.size w)
  by_cases a0 : a = 0
  · have eE : shpE H L W a = 7 := by rw [shpE, if_pos a0]
    rw [shpS, shpW, eE, if_neg (by decide), if_neg (by decide)]
    subst a0
    clear eE h hv HR
    generalize wkC W (16 + 2 * H) 0 = v at *
    generalize hSp W = x0 at *
    generalize hFr W = x1 at *
    generalize hGc W = x2 at *
    generalize hSc W = x3 at *
    generalize prS v = ps at *
    generalize prW v = pw at *
    generalize hdOk v = hd at *
    go_enter Tryz.func83, Tryz.ntmps83
    go_wp2_with (first
      | (go_at_call 37; with_reducible refine (HGe.out _ HB.out).mono ?_; rintro e w1 ⟨rfl, b1⟩; have H1 := Lib.hid b1; clear b1)
      | (go_at_call 28; with_reducible refine (HSp.out _ H1.out).mono ?_; rintro e w2 ⟨rfl, b2⟩; have H2 := Lib.hid (FsK.start (H := H) (L := L) (x0 := x0) (x1 := x1) (x2 := x2) (x3 := x3) (geo_next H1.out b2)); clear b2)
      | (go_at_call 35; with_reducible refine (HGet.out _ H2.out.b).mono ?_; rintro e w3 ⟨rfl, b3⟩; have H3 := Lib.hid (H2.out.below b3); clear b3)
      | (go_at_call 94; refine (HPa.out _).mono ?_; rintro e w' ⟨rfl, hw⟩; obtain rfl : w3 = w' := hw.symm)
      | (go_at_call 85; with_reducible refine (HNo.out _ H3.out.b).mono ?_; rintro e w4 ⟨rfl, b4⟩; have H4 := Lib.hid (H3.out.below b4); clear b4)
      | (go_at_call 65; refine (new_err 7 0 _).mono ?_; rintro e w5 ⟨v5, rfl, b5, he5⟩; have H5 := Lib.hid (And.intro (H4.out.below b5) he5); clear b5 he5))
    go_ret3
    exact ⟨v5, rfl, H5.out.2, H5.out.1.b⟩
  cases hk : hOk H L W with
  | false =>
    have eE : shpE H L W a = 1 := by rw [shpE, if_neg a0, objB, hk, Bool.false_and, if_neg (by decide)]
    rw [shpS, shpW, eE, if_neg (by decide), if_neg (by decide)]
    rw [hk] at HR
    clear eE h hv hk HNo
    generalize wkC W (16 + 2 * H) a = v at *
    generalize hSp W = x0 at *
    generalize hFr W = x1 at *
    generalize hGc W = x2 at *
    generalize hSc W = x3 at *
    generalize prS v = ps at *
    generalize prW v = pw at *
    generalize hdOk v = hd at *
    go_enter Tryz.func83, Tryz.ntmps83
    go_wp2_with (first
      | (go_at_call 37; with_reducible refine (HGe.out _ HB.out).mono ?_; rintro e w1 ⟨rfl, b1⟩; have H1 := Lib.hid b1; clear b1)
      | (go_at_call 28; with_reducible refine (HSp.out _ H1.out).mono ?_; rintro e w2 ⟨rfl, b2⟩; have H2 := Lib.hid (FsK.start (H := H) (L := L) (x0 := x0) (x1 := x1) (x2 := x2) (x3 := x3) (geo_next H1.out b2)); clear b2)
      | (go_at_call 35; with_reducible refine (HGet.out _ H2.out.b).mono ?_; rintro e w3 ⟨rfl, b3⟩; have H3 := Lib.hid (H2.out.below b3); clear b3; obtain ⟨c0, c1, c2, c3, c4, c5⟩ := H3.out.cells)
      | (go_at_call 94; refine (HPa.out _).mono ?_; rintro e w' ⟨rfl, hw⟩; obtain rfl : w3 = w' := hw.symm)
      | (go_at_call 43; refine (HR.out _).mono ?_; rintro e w4 ⟨rfl, b4⟩; have H4 := Lib.hid (H3.out.below b4); clear b4 c0 c1 c2 c3 c4 c5)
      | (go_at_call 65; refine (new_err 1 a _).mono ?_; rintro e w5 ⟨v5, rfl, b5, he5⟩; have H5 := Lib.hid (And.intro (H4.out.below b5) he5); clear b5 he5))
    go_ret3
    exact ⟨v5, rfl, H5.out.2, H5.out.1.b⟩
  | true =>
    rw [hk] at HR
    obtain ⟨f1, f2, f3, f4, f5⟩ := fine_yes hk
    have hq := geOk_yes f1
    have HIn := Lib.hid (fun u => gin_is H L (hSp W) a u)
    rw [ge_in f1 f2] at HIn
    have hm : 0 ≤ hSp W * (H : Int) ∧ hSp W * (H : Int) ≤ H := by rcases f2 with e | e <;> rw [e] <;> omega
    cases hi : inB H (hSp W) a with
    | false =>
      have eE : shpE H L W a = 1 := by rw [shpE, if_neg a0, objB, hk, hi, Bool.false_and, Bool.and_false, if_neg (by decide)]
      rw [shpS, shpW, eE, if_neg (by decide), if_neg (by decide)]
      rw [hi] at HIn
      clear eE h hv hk HNo f1 f2 f3 f4 f5 hq hm hi
      generalize wkC W (16 + 2 * H) a = v at *
      generalize hSp W = x0 at *
      generalize hFr W = x1 at *
      generalize hGc W = x2 at *
      generalize hSc W = x3 at *
      generalize prS v = ps at *
      generalize prW v = pw at *
      generalize hdOk v = hd at *
      go_enter Tryz.func83, Tryz.ntmps83
      go_wp2_with (first
        | (go_at_call 37; with_reducible refine (HGe.out _ HB.out).mono ?_; rintro e w1 ⟨rfl, b1⟩; have H1 := Lib.hid b1; clear b1)
        | (go_at_call 28; with_reducible refine (HSp.out _ H1.out).mono ?_; rintro e w2 ⟨rfl, b2⟩; have H2 := Lib.hid (FsK.start (H := H) (L := L) (x0 := x0) (x1 := x1) (x2 := x2) (x3 := x3) (geo_next H1.out b2)); clear b2)
        | (go_at_call 35; with_reducible refine (HGet.out _ H2.out.b).mono ?_; rintro e w3 ⟨rfl, b3⟩; have H3 := Lib.hid (H2.out.below b3); clear b3; obtain ⟨c0, c1, c2, c3, c4, c5⟩ := H3.out.cells)
        | (go_at_call 94; refine (HPa.out _).mono ?_; rintro e w' ⟨rfl, hw⟩; obtain rfl : w3 = w' := hw.symm)
        | (go_at_call 43; refine (HR.out _).mono ?_; rintro e w4 ⟨rfl, b4⟩; have H4 := Lib.hid (H3.out.below b4); clear b4 c0 c1 c2 c3 c4 c5; obtain ⟨c0, c1, c2, c3, c4, c5⟩ := H4.out.cells)
        | (go_at_call 96; refine (HIn.out _).mono ?_; rintro e w6 ⟨rfl, b6⟩; have H6 := Lib.hid (H4.out.below b6); clear b6 c0 c1 c2 c3 c4 c5)
        | (go_at_call 65; refine (new_err 1 a _).mono ?_; rintro e w5 ⟨v5, rfl, b5, he5⟩; have H5 := Lib.hid (And.intro (H6.out.below b5) he5); clear b5 he5))
      go_ret3
      exact ⟨v5, rfl, H5.out.2, H5.out.1.b⟩
    | true =>
      have hib : 16 + hSp W * (H : Int) ≤ a ∧ a < 16 + hSp W * (H : Int) + H := of_decide_eq_true hi
      have ewk : wkC W (16 + 2 * H) a = W.getD a.toNat 0 := if_pos (by omega)
      rw [ewk] at HPa HGet
      rw [hi] at HIn
      have HSz := Lib.hid (osize_is (prS (W.getD a.toNat 0)) (prW (W.getD a.toNat 0)))
      rw [szI, if_pos (pr_range (W.getD a.toNat 0))] at HSz
      have hp := shOk_yes (pr_range (W.getD a.toNat 0))
      have hcase : (hdOk (W.getD a.toNat 0) = false ∧ shpE H L W a = 1) ∨ (hdOk (W.getD a.toNat 0) = true ∧ hFr W < a + (1 + prS (W.getD a.toNat 0) + prW (W.getD a.toNat 0)) ∧ shpE H L W a = 1) ∨ (hdOk (W.getD a.toNat 0) = true ∧ ¬ hFr W < a + (1 + prS (W.getD a.toNat 0) + prW (W.getD a.toNat 0)) ∧ shpE H L W a = 0) := by
        cases d : hdOk (W.getD a.toNat 0)
        · exact .inl ⟨rfl, by rw [shpE, if_neg a0, objB, hk, hi, d, Bool.false_and, Bool.and_false, Bool.and_false, Bool.and_false, if_neg (by decide)]⟩
        · by_cases e : hFr W < a + (1 + prS (W.getD a.toNat 0) + prW (W.getD a.toNat 0))
          · refine .inr (.inl ⟨rfl, e, ?_⟩)
            rw [shpE, if_neg a0, objB, hk, hi, d, decide_eq_false (show ¬ a + 1 + prS (W.getD a.toNat 0) + prW (W.getD a.toNat 0) ≤ hFr W by omega), Bool.and_false, Bool.and_false, Bool.and_false, Bool.and_false, if_neg (by decide)]
          · refine .inr (.inr ⟨rfl, e, ?_⟩)
            rw [shpE, if_neg a0, objB, hk, hi, d, decide_eq_true (show a + 1 + prS (W.getD a.toNat 0) + prW (W.getD a.toNat 0) ≤ hFr W by omega), decide_eq_true (show a < hFr W by omega)]
            exact if_pos rfl
      rw [shpS, shpW]
      have ha : 0 ≤ a ∧ a ≤ 816 := by omega
      clear h hv hk HNo f1 f2 f3 f4 f5 hq hm hi hib ewk
      generalize shpE H L W a = ee at *
      generalize W.getD a.toNat 0 = v at *
      generalize hSp W = x0 at *
      generalize hFr W = x1 at *
      generalize hGc W = x2 at *
      generalize hSc W = x3 at *
      generalize prS v = ps at *
      generalize prW v = pw at *
      generalize hdOk v = hd at *
      have hws : IntKind.i64.wrap (a + (1 + ps + pw)) = a + (1 + ps + pw) := by rw [IntKind.wrap_i64]; omega
      clear hp ha
      generalize (1 : Int) + ps + pw = sz at *
      rcases hcase with ⟨rfl, rfl⟩ | ⟨rfl, hfit, rfl⟩ | ⟨rfl, hfit, rfl⟩
      · rw [if_neg (by decide), if_neg (by decide)]
        go_enter Tryz.func83, Tryz.ntmps83
        go_wp2_with (first
          | (go_at_call 37; with_reducible refine (HGe.out _ HB.out).mono ?_; rintro e w1 ⟨rfl, b1⟩; have H1 := Lib.hid b1; clear b1)
          | (go_at_call 28; with_reducible refine (HSp.out _ H1.out).mono ?_; rintro e w2 ⟨rfl, b2⟩; have H2 := Lib.hid (FsK.start (H := H) (L := L) (x0 := x0) (x1 := x1) (x2 := x2) (x3 := x3) (geo_next H1.out b2)); clear b2)
          | (go_at_call 35; with_reducible refine (HGet.out _ H2.out.b).mono ?_; rintro e w3 ⟨rfl, b3⟩; have H3 := Lib.hid (H2.out.below b3); clear b3; obtain ⟨c0, c1, c2, c3, c4, c5⟩ := H3.out.cells)
          | (go_at_call 94; refine (HPa.out _).mono ?_; rintro e w' ⟨rfl, hw⟩; obtain rfl : w3 = w' := hw.symm)
          | (go_at_call 43; refine (HR.out _).mono ?_; rintro e w4 ⟨rfl, b4⟩; have H4 := Lib.hid (H3.out.below b4); clear b4 c0 c1 c2 c3 c4 c5; obtain ⟨c0, c1, c2, c3, c4, c5⟩ := H4.out.cells)
          | (go_at_call 96; refine (HIn.out _).mono ?_; rintro e w6 ⟨rfl, b6⟩; have H6 := Lib.hid (H4.out.below b6); clear b6 c0 c1 c2 c3 c4 c5)
          | (go_at_call 65; refine (new_err 1 a _).mono ?_; rintro e w5 ⟨v5, rfl, b5, he5⟩; have H5 := Lib.hid (And.intro (H6.out.below b5) he5); clear b5 he5))
        go_ret3
        exact ⟨v5, rfl, H5.out.2, H5.out.1.b⟩
      all_goals (first | rw [if_neg (by decide), if_neg (by decide)] | rw [if_pos rfl, if_pos rfl])
      all_goals
        go_enter Tryz.func83, Tryz.ntmps83
        go_wp2_with (first
          | (go_at_call 37; with_reducible refine (HGe.out _ HB.out).mono ?_; rintro e w1 ⟨rfl, b1⟩; have H1 := Lib.hid b1; clear b1)
          | (go_at_call 28; with_reducible refine (HSp.out _ H1.out).mono ?_; rintro e w2 ⟨rfl, b2⟩; have H2 := Lib.hid (FsK.start (H := H) (L := L) (x0 := x0) (x1 := x1) (x2 := x2) (x3 := x3) (geo_next H1.out b2)); clear b2)
          | (go_at_call 35; with_reducible refine (HGet.out _ H2.out.b).mono ?_; rintro e w3 ⟨rfl, b3⟩; have H3 := Lib.hid (H2.out.below b3); clear b3; obtain ⟨c0, c1, c2, c3, c4, c5⟩ := H3.out.cells)
          | (go_at_call 94; refine (HPa.out _).mono ?_; rintro e w' ⟨rfl, hw⟩; obtain rfl : w3 = w' := hw.symm)
          | (go_at_call 43; refine (HR.out _).mono ?_; rintro e w4 ⟨rfl, b4⟩; have H4 := Lib.hid (H3.out.below b4); clear b4 c0 c1 c2 c3 c4 c5; obtain ⟨c0, c1, c2, c3, c4, c5⟩ := H4.out.cells)
          | (go_at_call 96; refine (HIn.out _).mono ?_; rintro e w6 ⟨rfl, b6⟩; have H6 := Lib.hid (H4.out.below b6); clear b6 c0 c1 c2 c3 c4 c5; obtain ⟨_, _, _, c3, _, _⟩ := H6.out.cells))
        go_region_held3 (fun u => u.cell? ⟨w2.heap.size + 1, 1, none⟩ = some (.int .i64 x1) ∧ FsK w w2 H L x0 x1 x2 x3 u) (first
            | assumption
            | exact ⟨H6.out.cells.2.2.2.1, H6.out⟩
            | exact ⟨(H6.out.below (Below.refl _ _).drew).cells.2.2.2.1, H6.out.below (Below.refl _ _).drew⟩) (first
          | (go_at_call 52; refine (HSz.out _).mono ?_; rintro e w' ⟨rfl, rfl⟩))
        rename_i hH
        have H7 := Lib.hid hH.2
        clear hH c3
        go_wp2_with (go_at_call 65; refine (new_err 1 a _).mono ?_; rintro e w5 ⟨v5, rfl, b5, he5⟩; have H5 := Lib.hid (And.intro (H7.out.below b5) he5); clear b5 he5)
        go_ret3
      · exact ⟨v5, rfl, H5.out.2, H5.out.1.b⟩
      · exact ⟨.nilIface, rfl, errNil _, H7.out.b⟩
end
end Go.Proofs.YtbghglkplbnnkaaGreatDoor
-- FieldOf
namespace Go.Proofs.YtbghglkplbnnkaaGreatDoor
open Go.RowKit Sec
open Go.Proofs.YtbghglkplbnnkaaGreatDoor.Bk

theorem setW_yes {V : List Int} {N : Nat} {c v : Int} (hc : 0 ≤ c ∧ c < (N : Int)) (hv : 0 ≤ v ∧ v < 4294967296) : setW V N c v = V.set c.toNat v := by
  rw [setW, if_pos (show setB N c v = true from decide_eq_true ⟨hc, hv⟩)]
section
variable {B : Nat} {G : Nat → Prop} {w : World} {s H L : Nat} {W : List Int}
theorem nam_cases (h l : Int) (W : List Int) (a : Int) : (namE h l W a = 0 ∧ (a = 0 ∨ objB h l W a = true)) ∨ (namE h l W a = 1 ∧ ¬ (a = 0 ∨ objB h l W a = true)) := by
  by_cases q : a = 0 ∨ objB h l W a = true
  · exact .inl ⟨if_pos q, q⟩
  · exact .inr ⟨if_neg q, q⟩
set_option maxRecDepth 100000 in
set_option maxHeartbeats 2000000 in
theorem fnamed_is (h : St B G w s H L W) (a : Int) : Calls Tryz.prog 84 #[.pointer (some ⟨s, 0, none⟩), .int .i64 a] w fun e w' => ∃ v, e = .returned v ∧ ErrIs w' (namE H L W a) v ∧ Below w.heap.size w w' := by
  have HS := Lib.hid (fshape_is h a)
  have HT := Lib.hid (fun u (y : Below w.heap.size w u) => (h.below y).ty.1)
  have hcase : (shpE H L W a = 7 ∧ namE H L W a = 0) ∨ (shpE H L W a = 0 ∧ namE H L W a = 0) ∨ (shpE H L W a = 1 ∧ namE H L W a = 1) := by
    by_cases e : a = 0
    · exact .inl ⟨by rw [shpE, if_pos e], by rw [namE, if_pos (.inl e)]⟩
    · by_cases o : objB H L W a = true
      · exact .inr (.inl ⟨by rw [shpE, if_neg e, if_pos o], by rw [namE, if_pos (.inr o)]⟩)
      · exact .inr (.inr ⟨by rw [shpE, if_neg e, if_neg o], by rw [namE, if_neg (fun z => z.elim e o)]⟩)
  clear h
  generalize shpE H L W a = x at *
  generalize namE H L W a = y at *
  generalize shpS H L W a = ps at *
  generalize shpW H L W a = pw at *
  rcases hcase with ⟨rfl, rfl⟩ | ⟨rfl, rfl⟩ | ⟨rfl, rfl⟩
  all_goals
    go_enter Tryz.func84, Tryz.ntmps84
    go_wp2_with (first
      | (go_at_call 83; refine HS.out.mono ?_; rintro e w1 ⟨v1, rfl, he1, b1⟩; have H1 := Lib.hid (And.intro he1 b1); clear he1 b1)
      | (go_at_call 97; refine (is_err _ 7 (by decide) _ _ H1.out.1 (HT.out _ H1.out.2)).mono ?_; rintro e w2 ⟨rfl, b2⟩; have H2 := Lib.hid (And.intro (H1.out.1.below b2) (geo_next H1.out.2 b2)); clear b2)
      | (go_at_call 64; refine (in_err _ _ _ _ H2.out.1).mono ?_; rintro e w3 ⟨v3, rfl, b3, he3⟩; have H3 := Lib.hid (And.intro he3 (geo_next H2.out.2 b3)); clear b3 he3))
    go_ret
  · exact ⟨.nilIface, rfl, errNil _, H2.out.2⟩
  · exact ⟨v3, rfl, H3.out.1, H3.out.2⟩
  · exact ⟨v3, rfl, H3.out.1, H3.out.2⟩
set_option maxRecDepth 100000 in
set_option maxHeartbeats 4000000 in
theorem froot_is (h : St B G w s H L W) (i a : Int) : Calls Tryz.prog 58 #[.pointer (some ⟨s, 0, none⟩), .int .i64 i, .int .i64 a] w fun e w' => ∃ v, e = .returned (.tuple #[.int .i64 (if srE H L W i a = 0 then 8 + i else 0), v]) ∧ ErrIs w' (srE H L W i a) v ∧ Below w.heap.size w w' := by
  have HN := Lib.hid (fnamed_is h a)
  have HO := Lib.hid (fun u (y : Below w.heap.size w u) => fnone_is (h.below y))
  have hcase : ((i < 0 ∧ srE H L W i a = 8) ∨ (0 ≤ i ∧ 8 ≤ i ∧ srE H L W i a = 8)) ∨ (¬ i < 0 ∧ ¬ 8 ≤ i ∧ namE H L W a = 0 ∧ srE H L W i a = 0) ∨ (¬ i < 0 ∧ ¬ 8 ≤ i ∧ namE H L W a = 1 ∧ srE H L W i a = 1) := by
    by_cases c0 : i < 0
    · exact .inl (.inl ⟨c0, by rw [srE, if_pos (.inl c0)]⟩)
    · by_cases c1 : 8 ≤ i
      · exact .inl (.inr ⟨by omega, c1, by rw [srE, if_pos (.inr c1)]⟩)
      · rcases nam_cases H L W a with ⟨q, o⟩ | ⟨q, o⟩
        · exact .inr (.inl ⟨c0, c1, q, by rw [srE, if_neg (by omega), if_pos o]⟩)
        · exact .inr (.inr ⟨c0, c1, q, by rw [srE, if_neg (by omega), if_neg o]⟩)
  clear h
  generalize srE H L W i a = x at *
  generalize namE H L W a = y at *
  rcases hcase with (⟨c0, rfl⟩ | ⟨c0, c1, rfl⟩) | ⟨c0, c1, rfl, rfl⟩ | ⟨c0, c1, rfl, rfl⟩
  iterate 2
    · rw [if_neg (by decide)]
      go_enter Tryz.func58, Tryz.ntmps58
      go_wp2_with (first
        | (go_at_call 84; refine HN.out.mono ?_; rintro e w1 ⟨v1, rfl, he1, b1⟩; have H1 := Lib.hid b1; clear he1 b1)
        | (go_at_call 85; refine (HO.out _ H1.out).mono ?_; rintro e w2 ⟨rfl, b2⟩; have H2 := Lib.hid (geo_next H1.out b2); clear b2)
        | (go_at_call 65; refine (new_err 8 i _).mono ?_; rintro e w3 ⟨v3, rfl, b3, he3⟩; have H3 := Lib.hid (And.intro he3 (geo_next H2.out b3)); clear b3 he3)
        | (go_at_call 64; refine (in_err _ _ _ _ H3.out.1).mono ?_; rintro e w4 ⟨v4, rfl, b4, he4⟩; have H4 := Lib.hid (And.intro he4 (geo_next H3.out.2 b4)); clear b4 he4))
      all_goals go_ret2
      all_goals exact ⟨v4, rfl, H4.out.1, H4.out.2⟩
  · rw [if_pos rfl]
    go_enter Tryz.func58, Tryz.ntmps58
    go_wp2_with (first
      | (go_at_call 84; refine HN.out.mono ?_; rintro e w1 ⟨v1, rfl, he1, b1⟩; obtain rfl := he1.nil; have H1 := Lib.hid b1; clear he1 b1)
      | (go_at_call 85; refine (HO.out _ H1.out).mono ?_; rintro e w2 ⟨rfl, b2⟩; have H2 := Lib.hid (geo_next H1.out b2); clear b2))
    all_goals go_ret2
    all_goals exact ⟨.nilIface, rfl, errNil _, H2.out⟩
  · rw [if_neg (by decide)]
    go_enter Tryz.func58, Tryz.ntmps58
    go_wp2_with (first
      | (go_at_call 84; refine HN.out.mono ?_; rintro e w1 ⟨v1, rfl, he1, b1⟩; obtain ⟨tv, vv, rfl⟩ := he1.iface (by decide); have H1 := Lib.hid (And.intro he1 b1); clear he1 b1)
      | (go_at_call 85; refine (HO.out _ H1.out.2).mono ?_; rintro e w2 ⟨rfl, b2⟩; have H2 := Lib.hid (And.intro (H1.out.1.below b2) (geo_next H1.out.2 b2)); clear b2)
      | (go_at_call 64; refine (in_err _ _ _ _ H2.out.1).mono ?_; rintro e w4 ⟨v4, rfl, b4, he4⟩; have H4 := Lib.hid (And.intro he4 (geo_next H2.out.2 b4)); clear b4 he4))
    all_goals go_ret2
    all_goals exact ⟨v4, rfl, H4.out.1, H4.out.2⟩
set_option maxRecDepth 100000 in
set_option maxHeartbeats 4000000 in
theorem fslot_is (h : St B G w s H L W) (a i v : Int) : Calls Tryz.prog 55 #[.pointer (some ⟨s, 0, none⟩), .int .i64 a, .int .i64 i, .int .i64 v] w fun e w' => ∃ r, e = .returned (.tuple #[.int .i64 (if ptE H L W a i v = 0 then a + 1 + i else 0), r]) ∧ ErrIs w' (ptE H L W a i v) r ∧ Below w.heap.size w w' := by
  have HS := Lib.hid (fshape_is h a)
  have HN := Lib.hid (fun u (y : Below w.heap.size w u) => fnamed_is (h.below y) v)
  have hl := h.len
  have hge := h.ge
  by_cases q : shpE H L W a = 0
  · obtain ⟨n, hn, h1, h2, h3, h4, h5, h6⟩ := shp_at (by omega) q
    have hb : 0 ≤ a ∧ a ≤ 816 := by omega
    have hcase : (namE H L W v = 1 ∧ ptE H L W a i v = 1) ∨ (namE H L W v = 0 ∧ ((i < 0 ∧ ptE H L W a i v = 8) ∨ (0 ≤ i ∧ shpS H L W a ≤ i ∧ ptE H L W a i v = 8) ∨ (¬ i < 0 ∧ ¬ shpS H L W a ≤ i ∧ ptE H L W a i v = 0))) := by
      rcases nam_cases H L W v with ⟨e, o⟩ | ⟨e, o⟩
      · refine .inr ⟨e, ?_⟩
        by_cases c0 : i < 0
        · exact .inl ⟨c0, by rw [ptE, if_pos q, if_pos o, if_pos (.inl c0)]⟩
        · by_cases c1 : shpS H L W a ≤ i
          · exact .inr (.inl ⟨by omega, c1, by rw [ptE, if_pos q, if_pos o, if_pos (.inr c1)]⟩)
          · exact .inr (.inr ⟨c0, c1, by rw [ptE, if_pos q, if_pos o, if_neg (by omega)]⟩)
      · exact .inl ⟨e, by rw [ptE, if_pos q, if_neg o]⟩
    rw [q] at HS
    clear h q hn h1 h2 h5 h6 hl hge
    generalize ptE H L W a i v = x at *
    generalize namE H L W v = y at *
    generalize shpS H L W a = ps at *
    generalize shpW H L W a = pw at *
    rcases hcase with ⟨rfl, rfl⟩ | ⟨rfl, ⟨c0, rfl⟩ | ⟨c0, c1, rfl⟩ | ⟨c0, c1, rfl⟩⟩
    · rw [if_neg (by decide)]
      go_enter Tryz.func55, Tryz.ntmps55
      go_wp2_with (first
        | (go_at_call 83; refine HS.out.mono ?_; rintro e w1 ⟨v1, rfl, he1, b1⟩; obtain rfl := he1.nil; have H1 := Lib.hid b1; clear he1 b1)
        | (go_at_call 84; refine (HN.out _ H1.out).mono ?_; rintro e w2 ⟨v2, rfl, he2, b2⟩; obtain ⟨tv, vv, rfl⟩ := he2.iface (by decide); have H2 := Lib.hid (And.intro he2 (geo_next H1.out b2)); clear he2 b2)
        | (go_at_call 64; refine (in_err _ _ _ _ H2.out.1).mono ?_; rintro e w4 ⟨v4, rfl, b4, he4⟩; have H4 := Lib.hid (And.intro he4 (geo_next H2.out.2 b4)); clear b4 he4))
      all_goals go_ret2
      all_goals exact ⟨v4, rfl, H4.out.1, H4.out.2⟩
    iterate 2
      · rw [if_neg (by decide)]
        go_enter Tryz.func55, Tryz.ntmps55
        go_wp2_with (first
          | (go_at_call 83; refine HS.out.mono ?_; rintro e w1 ⟨v1, rfl, he1, b1⟩; obtain rfl := he1.nil; have H1 := Lib.hid b1; clear he1 b1)
          | (go_at_call 84; refine (HN.out _ H1.out).mono ?_; rintro e w2 ⟨v2, rfl, he2, b2⟩; obtain rfl := he2.nil; have H2 := Lib.hid (geo_next H1.out b2); clear he2 b2)
          | (go_at_call 65; refine (new_err 8 i _).mono ?_; rintro e w3 ⟨v3, rfl, b3, he3⟩; have H3 := Lib.hid (And.intro he3 (geo_next H2.out b3)); clear b3 he3)
          | (go_at_call 64; refine (in_err _ _ _ _ H3.out.1).mono ?_; rintro e w4 ⟨v4, rfl, b4, he4⟩; have H4 := Lib.hid (And.intro he4 (geo_next H3.out.2 b4)); clear b4 he4))
        all_goals go_ret2
        all_goals exact ⟨v4, rfl, H4.out.1, H4.out.2⟩
    · rw [if_pos rfl]
      go_enter Tryz.func55, Tryz.ntmps55
      go_wp2_with (first
        | (go_at_call 83; refine HS.out.mono ?_; rintro e w1 ⟨v1, rfl, he1, b1⟩; obtain rfl := he1.nil; have H1 := Lib.hid b1; clear he1 b1)
        | (go_at_call 84; refine (HN.out _ H1.out).mono ?_; rintro e w2 ⟨v2, rfl, he2, b2⟩; obtain rfl := he2.nil; have H2 := Lib.hid (geo_next H1.out b2); clear he2 b2))
      all_goals go_ret2
      all_goals exact ⟨.nilIface, rfl, errNil _, H2.out⟩
  · have eE : ptE H L W a i v = shpE H L W a := by rw [ptE, if_neg q]
    rw [eE, if_neg q]
    clear h eE hl hge
    generalize shpE H L W a = x at *
    generalize namE H L W v = y at *
    generalize shpS H L W a = ps at *
    generalize shpW H L W a = pw at *
    go_enter Tryz.func55, Tryz.ntmps55
    go_wp2_with (first
      | (go_at_call 83; refine HS.out.mono ?_; rintro e w1 ⟨v1, rfl, he1, b1⟩; obtain ⟨tv, vv, rfl⟩ := he1.iface q; have H1 := Lib.hid (And.intro he1 b1); clear he1 b1)
      | (go_at_call 84; refine (HN.out _ H1.out.2).mono ?_; rintro e w2 ⟨v2, rfl, he2, b2⟩; have H2 := Lib.hid (And.intro (H1.out.1.below b2) (geo_next H1.out.2 b2)); clear he2 b2)
      | (go_at_call 64; refine (in_err _ _ _ _ H2.out.1).mono ?_; rintro e w4 ⟨v4, rfl, b4, he4⟩; have H4 := Lib.hid (And.intro he4 (geo_next H2.out.2 b4)); clear b4 he4))
    all_goals go_ret2
    all_goals exact ⟨v4, rfl, H4.out.1, H4.out.2⟩
set_option maxRecDepth 100000 in
set_option maxHeartbeats 4000000 in
theorem fword_is (h : St B G w s H L W) (a i v : Int) : Calls Tryz.prog 57 #[.pointer (some ⟨s, 0, none⟩), .int .i64 a, .int .i64 i, .int .i64 v] w fun e w' => ∃ r, e = .returned (.tuple #[.int .i64 (if swE H L W a i v = 0 then a + 1 + shpS H L W a + i else 0), r]) ∧ ErrIs w' (swE H L W a i v) r ∧ Below w.heap.size w w' := by
  have HS := Lib.hid (fshape_is h a)
  have hl := h.len
  have hge := h.ge
  by_cases q : shpE H L W a = 0
  · obtain ⟨n, hn, h1, h2, h3, h4, h5, h6⟩ := shp_at (by omega) q
    have hb : 0 ≤ a ∧ a ≤ 816 := by omega
    have hcase : ((v < 0 ∧ swE H L W a i v = 1) ∨ (0 ≤ v ∧ 4294967296 ≤ v ∧ swE H L W a i v = 1)) ∨ (¬ v < 0 ∧ ¬ 4294967296 ≤ v ∧ ((i < 0 ∧ swE H L W a i v = 8) ∨ (0 ≤ i ∧ shpW H L W a ≤ i ∧ swE H L W a i v = 8) ∨ (¬ i < 0 ∧ ¬ shpW H L W a ≤ i ∧ swE H L W a i v = 0))) := by
      by_cases v0 : v < 0
      · exact .inl (.inl ⟨v0, by rw [swE, if_pos q, if_neg (fun z : hbNum v = true => absurd (of_decide_eq_true z) (by omega))]⟩)
      · by_cases v1 : 4294967296 ≤ v
        · exact .inl (.inr ⟨by omega, v1, by rw [swE, if_pos q, if_neg (fun z : hbNum v = true => absurd (of_decide_eq_true z) (by omega))]⟩)
        · have o : hbNum v = true := decide_eq_true (by omega)
          refine .inr ⟨v0, v1, ?_⟩
          by_cases c0 : i < 0
          · exact .inl ⟨c0, by rw [swE, if_pos q, if_pos o, if_pos (.inl c0)]⟩
          · by_cases c1 : shpW H L W a ≤ i
            · exact .inr (.inl ⟨by omega, c1, by rw [swE, if_pos q, if_pos o, if_pos (.inr c1)]⟩)
            · exact .inr (.inr ⟨c0, c1, by rw [swE, if_pos q, if_pos o, if_neg (by omega)]⟩)
    rw [q] at HS
    clear h q hn h1 h6 hl hge
    generalize swE H L W a i v = x at *
    generalize shpS H L W a = ps at *
    generalize shpW H L W a = pw at *
    rcases hcase with (⟨c0, rfl⟩ | ⟨c0, c1, rfl⟩) | ⟨v0, v1, ⟨c0, rfl⟩ | ⟨c0, c1, rfl⟩ | ⟨c0, c1, rfl⟩⟩
    iterate 2
      · rw [if_neg (by decide)]
        go_enter Tryz.func57, Tryz.ntmps57
        go_wp2_with (first
          | (go_at_call 83; refine HS.out.mono ?_; rintro e w1 ⟨v1, rfl, he1, b1⟩; obtain rfl := he1.nil; have H1 := Lib.hid b1; clear he1 b1)
          | (go_at_call 65; refine (new_err 1 v _).mono ?_; rintro e w3 ⟨v3, rfl, b3, he3⟩; have H3 := Lib.hid (And.intro he3 (geo_next H1.out b3)); clear b3 he3)
          | (go_at_call 64; refine (in_err _ _ _ _ H3.out.1).mono ?_; rintro e w4 ⟨v4, rfl, b4, he4⟩; have H4 := Lib.hid (And.intro he4 (geo_next H3.out.2 b4)); clear b4 he4))
        all_goals go_ret2
        all_goals exact ⟨v4, rfl, H4.out.1, H4.out.2⟩
    iterate 2
      · rw [if_neg (by decide)]
        go_enter Tryz.func57, Tryz.ntmps57
        go_wp2_with (first
          | (go_at_call 83; refine HS.out.mono ?_; rintro e w1 ⟨v1, rfl, he1, b1⟩; obtain rfl := he1.nil; have H1 := Lib.hid b1; clear he1 b1)
          | (go_at_call 65; refine (new_err 8 i _).mono ?_; rintro e w3 ⟨v3, rfl, b3, he3⟩; have H3 := Lib.hid (And.intro he3 (geo_next H1.out b3)); clear b3 he3)
          | (go_at_call 64; refine (in_err _ _ _ _ H3.out.1).mono ?_; rintro e w4 ⟨v4, rfl, b4, he4⟩; have H4 := Lib.hid (And.intro he4 (geo_next H3.out.2 b4)); clear b4 he4))
        all_goals go_ret2
        all_goals exact ⟨v4, rfl, H4.out.1, H4.out.2⟩
    · rw [if_pos rfl]
      go_enter Tryz.func57, Tryz.ntmps57
      go_wp2_with (first
        | (go_at_call 83; refine HS.out.mono ?_; rintro e w1 ⟨v1, rfl, he1, b1⟩; obtain rfl := he1.nil; have H1 := Lib.hid b1; clear he1 b1))
      all_goals go_ret2
      all_goals exact ⟨.nilIface, rfl, errNil _, H1.out⟩
  · have eE : swE H L W a i v = shpE H L W a := by rw [swE, if_neg q]
    rw [eE, if_neg q]
    clear h eE hl hge
    generalize shpE H L W a = x at *
    generalize shpS H L W a = ps at *
    generalize shpW H L W a = pw at *
    go_enter Tryz.func57, Tryz.ntmps57
    go_wp2_with (first
      | (go_at_call 83; refine HS.out.mono ?_; rintro e w1 ⟨v1, rfl, he1, b1⟩; obtain ⟨tv, vv, rfl⟩ := he1.iface q; have H1 := Lib.hid (And.intro he1 b1); clear he1 b1)
      | (go_at_call 64; refine (in_err _ _ _ _ H1.out.1).mono ?_; rintro e w4 ⟨v4, rfl, b4, he4⟩; have H4 := Lib.hid (And.intro he4 (geo_next H1.out.2 b4)); clear b4 he4))
    all_goals go_ret2
    all_goals exact ⟨v4, rfl, H4.out.1, H4.out.2⟩
set_option maxRecDepth 100000 in
set_option maxHeartbeats 2000000 in
theorem fwrite_is (h : St B G w s H L W) (c v x : Int) (r : Value) (he : ErrIs w x r) : Calls Tryz.prog 56 #[.pointer (some ⟨s, 0, none⟩), .int .i64 c, .int .i64 v, r] w fun e w' => e = .returned (.int .i64 x) ∧ St B G w' s H L (if x = 0 then setW W (16 + 2 * H) c v else W) ∧ Below B w w' ∧ KeptG G w w' := by
  by_cases q : x = 0
  · subst q
    obtain rfl := he.nil
    rw [if_pos rfl]
    have HS := Lib.hid (st_set h c v)
    clear h he
    generalize setW W (16 + 2 * H) c v = V at *
    generalize setB (16 + 2 * H) c v = t at *
    go_enter Tryz.func56, Tryz.ntmps56
    go_wp2_with (first
      | (go_at_call 82; refine HS.out.mono ?_; rintro e w1 ⟨rfl, h1, b1, k1⟩; have H1 := Lib.hid (And.intro h1 (And.intro b1 k1)); clear h1 b1 k1)
      | (go_at_call 34; refine (errno_err 0 _ _ (errNil _) H1.out.1.ty.1).mono ?_; rintro e w2 ⟨rfl, b2⟩; have H2 := Lib.hid (And.intro (H1.out.1.below b2) (And.intro (H1.out.2.1.trans (b2.mono H1.out.1.le)) (H1.out.2.2.trans (H1.out.1.keptG b2)))); clear b2))
    go_ret
    exact ⟨rfl, H2.out⟩
  · rw [if_neg q]
    obtain ⟨tv, vv, rfl⟩ := he.iface q
    have HE := Lib.hid (errno_err x _ w he h.ty.1)
    have HH := Lib.hid (fun u (y : Below w.heap.size w u) => (show St B G u s H L W ∧ Below B w u ∧ KeptG G w u from ⟨h.below y, y.mono h.le, h.keptG y⟩))
    clear h he
    go_enter Tryz.func56, Tryz.ntmps56
    go_wp2_with (first
      | (go_at_call 34; refine HE.out.mono ?_; rintro e w2 ⟨rfl, b2⟩; have H2 := Lib.hid (HH.out _ b2); clear b2))
    go_ret
    exact ⟨rfl, H2.out⟩
end
end Go.Proofs.YtbghglkplbnnkaaGreatDoor
-- FieldCalls
namespace Go.Proofs.YtbghglkplbnnkaaGreatDoor
open Go.RowKit Sec
open Go.Proofs.YtbghglkplbnnkaaGreatDoor.Bk

section
variable {B : Nat} {G : Nat → Prop} {w : World} {s H L : Nat} {W : List Int}
theorem obj_num {H : Nat} {l : Int} {W : List Int} {a : Int} (hl : W.length = 16 + 2 * H) (hH : H ≤ 400) (o : a = 0 ∨ objB H l W a = true) : 0 ≤ a ∧ a < 4294967296 := by
  rcases o with rfl | o
  · exact ⟨by decide, by decide⟩
  · obtain ⟨n, rfl, h1, h2, _⟩ := objB_at (by omega) o
    omega
set_option maxRecDepth 100000 in
set_option maxHeartbeats 2000000 in
theorem fSetRoot_is (h : St B G w s H L W) (i a : Int) : Calls Tryz.prog 27 #[.pointer (some ⟨s, 0, none⟩), .int .i64 i, .int .i64 a] w fun e w' => e = .returned (.int .i64 (srE H L W i a)) ∧ St B G w' s H L (srW H L W i a) ∧ Below B w w' ∧ KeptG G w w' := by
  have HR := Lib.hid (froot_is h i a)
  have HK := Lib.hid (fun u (y : Below w.heap.size w u) => (show Below B w u ∧ KeptG G w u from ⟨y.mono h.le, h.keptG y⟩))
  have hW : srW H L W i a = if srE H L W i a = 0 then setW W (16 + 2 * H) (if srE H L W i a = 0 then 8 + i else 0) a else W := by
    by_cases q : srE H L W i a = 0
    · rw [srW, if_pos q, if_pos q, if_pos q, setW_yes]
      · rw [srE] at q
        split at q
        · exact absurd q (by decide)
        · omega
      · refine obj_num h.len h.ge.2.1 (l := (L : Int)) ?_
        rw [srE] at q
        split at q
        · exact absurd q (by decide)
        · split at q
          · assumption
          · exact absurd q (by decide)
    · rw [srW, if_neg q, if_neg q]
  have HC := Lib.hid (fun u r (y : Below w.heap.size w u) (he : ErrIs u (srE H L W i a) r) => fwrite_is (h.below y) (if srE H L W i a = 0 then 8 + i else 0) a (srE H L W i a) r he)
  rw [← hW] at HC
  clear h hW
  generalize srW H L W i a = V at *
  generalize srE H L W i a = x at *
  generalize (if x = 0 then 8 + i else 0) = c at *
  go_enter Tryz.func27, Tryz.ntmps27
  go_wp2_with (first
    | (go_at_call 58; refine HR.out.mono ?_; rintro e w1 ⟨v1, rfl, he1, b1⟩; have H1 := Lib.hid (And.intro he1 b1); clear he1 b1)
    | (go_at_call 56; refine (HC.out _ _ H1.out.2 H1.out.1).mono ?_; rintro e w2 ⟨rfl, h2, b2, k2⟩; have H2 := Lib.hid (And.intro h2 (And.intro ((HK.out _ H1.out.2).1.trans b2) ((HK.out _ H1.out.2).2.trans k2))); clear h2 b2 k2))
  go_ret
  exact ⟨rfl, H2.out⟩
set_option maxRecDepth 100000 in
set_option maxHeartbeats 2000000 in
theorem fPut_is (h : St B G w s H L W) (a i v : Int) : Calls Tryz.prog 25 #[.pointer (some ⟨s, 0, none⟩), .int .i64 a, .int .i64 i, .int .i64 v] w fun e w' => e = .returned (.int .i64 (ptE H L W a i v)) ∧ St B G w' s H L (ptW H L W a i v) ∧ Below B w w' ∧ KeptG G w w' := by
  have HR := Lib.hid (fslot_is h a i v)
  have HK := Lib.hid (fun u (y : Below w.heap.size w u) => (show Below B w u ∧ KeptG G w u from ⟨y.mono h.le, h.keptG y⟩))
  have hW : ptW H L W a i v = if ptE H L W a i v = 0 then setW W (16 + 2 * H) (if ptE H L W a i v = 0 then a + 1 + i else 0) v else W := by
    by_cases q : ptE H L W a i v = 0
    · rw [ptW, if_pos q, if_pos q, if_pos q]
      have hl := h.len
      rw [ptE] at q
      by_cases q1 : shpE H L W a = 0
      · rw [if_pos q1] at q
        obtain ⟨n, hn, h1, h2, h3, h4, h5, h6⟩ := shp_at (by omega) q1
        by_cases o : v = 0 ∨ objB H L W v = true
        · rw [if_pos o] at q
          by_cases r : i < 0 ∨ shpS H L W a ≤ i
          · rw [if_pos r] at q
            exact absurd q (by decide)
          · rw [setW_yes (by omega) (obj_num h.len h.ge.2.1 o)]
        · rw [if_neg o] at q
          exact absurd q (by decide)
      · rw [if_neg q1] at q
        exact absurd q q1
    · rw [ptW, if_neg q, if_neg q]
  have HC := Lib.hid (fun u r (y : Below w.heap.size w u) (he : ErrIs u (ptE H L W a i v) r) => fwrite_is (h.below y) (if ptE H L W a i v = 0 then a + 1 + i else 0) v (ptE H L W a i v) r he)
  rw [← hW] at HC
  clear h hW
  generalize ptW H L W a i v = V at *
  generalize ptE H L W a i v = x at *
  generalize (if x = 0 then a + 1 + i else 0) = c at *
  go_enter Tryz.func25, Tryz.ntmps25
  go_wp2_with (first
    | (go_at_call 55; refine HR.out.mono ?_; rintro e w1 ⟨v1, rfl, he1, b1⟩; have H1 := Lib.hid (And.intro he1 b1); clear he1 b1)
    | (go_at_call 56; refine (HC.out _ _ H1.out.2 H1.out.1).mono ?_; rintro e w2 ⟨rfl, h2, b2, k2⟩; have H2 := Lib.hid (And.intro h2 (And.intro ((HK.out _ H1.out.2).1.trans b2) ((HK.out _ H1.out.2).2.trans k2))); clear h2 b2 k2))
  go_ret
  exact ⟨rfl, H2.out⟩
set_option maxRecDepth 100000 in
set_option maxHeartbeats 2000000 in
theorem fSetWord_is (h : St B G w s H L W) (a i v : Int) : Calls Tryz.prog 26 #[.pointer (some ⟨s, 0, none⟩), .int .i64 a, .int .i64 i, .int .i64 v] w fun e w' => e = .returned (.int .i64 (swE H L W a i v)) ∧ St B G w' s H L (swW H L W a i v) ∧ Below B w w' ∧ KeptG G w w' := by
  have HR := Lib.hid (fword_is h a i v)
  have HK := Lib.hid (fun u (y : Below w.heap.size w u) => (show Below B w u ∧ KeptG G w u from ⟨y.mono h.le, h.keptG y⟩))
  have hW : swW H L W a i v = if swE H L W a i v = 0 then setW W (16 + 2 * H) (if swE H L W a i v = 0 then a + 1 + shpS H L W a + i else 0) v else W := by
    by_cases q : swE H L W a i v = 0
    · rw [swW, if_pos q, if_pos q, if_pos q]
      have hl := h.len
      rw [swE] at q
      by_cases q1 : shpE H L W a = 0
      · rw [if_pos q1] at q
        obtain ⟨n, hn, h1, h2, h3, h4, h5, h6⟩ := shp_at (by omega) q1
        by_cases o : hbNum v = true
        · rw [if_pos o] at q
          have ov := of_decide_eq_true o
          by_cases r : i < 0 ∨ shpW H L W a ≤ i
          · rw [if_pos r] at q
            exact absurd q (by decide)
          · rw [setW_yes (by omega) (by omega)]
        · rw [if_neg o] at q
          exact absurd q (by decide)
      · rw [if_neg q1] at q
        exact absurd q q1
    · rw [swW, if_neg q, if_neg q]
  have HC := Lib.hid (fun u r (y : Below w.heap.size w u) (he : ErrIs u (swE H L W a i v) r) => fwrite_is (h.below y) (if swE H L W a i v = 0 then a + 1 + shpS H L W a + i else 0) v (swE H L W a i v) r he)
  rw [← hW] at HC
  clear h hW
  generalize swW H L W a i v = V at *
  generalize swE H L W a i v = x at *
  generalize (if x = 0 then a + 1 + shpS H L W a + i else 0) = c at *
  go_enter Tryz.func26, Tryz.ntmps26
  go_wp2_with (first
    | (go_at_call 57; refine HR.out.mono ?_; rintro e w1 ⟨v1, rfl, he1, b1⟩; have H1 := Lib.hid (And.intro he1 b1); clear he1 b1)
    | (go_at_call 56; refine (HC.out _ _ H1.out.2 H1.out.1).mono ?_; rintro e w2 ⟨rfl, h2, b2, k2⟩; have H2 := Lib.hid (And.intro h2 (And.intro ((HK.out _ H1.out.2).1.trans b2) ((HK.out _ H1.out.2).2.trans k2))); clear h2 b2 k2))
  go_ret
  exact ⟨rfl, H2.out⟩
end
end Go.Proofs.YtbghglkplbnnkaaGreatDoor
