import Derived.Test.YtiiioeodanmieaaGreatDoorYFieldIs
import Derived.Test.YtiiioeodanmieaaGreatDoorYHeapC
set_option linter.unusedVariables false
set_option linter.unusedSimpArgs false
-- FieldOf
namespace Go.Proofs.YtiiioeodanmieaaGreatDoor
open Go.RowKit Sec
open Go.Proofs.YtiiioeodanmieaaGreatDoor.Bk

theorem setW_yes {V : List Int} {N : Nat} {c v : Int} (hc : 0 ≤ c ∧ c < (N : Int)) (hv : 0 ≤ v ∧ v < 4294967296) : setW V N c v = V.set c.toNat v := by
  rw [setW, if_pos (show setB N c v = true from decide_eq_true ⟨hc, hv⟩)]
section
variable {B : Nat} {G : Nat → Prop} {w : World} {s H L : Nat} {W : List Int}
theorem nam_cases (h l : Int) (W : List Int) (a : Int) : (namE h l W a = 0 ∧ (a = 0 ∨ objB h l W a = true)) ∨ (namE h l W a = 1 ∧ ¬ (a = 0 ∨ objB h l W a = true)) := by
  by_cases q : a = 0 ∨ objB h l W a = true
  · exact .inl ⟨if_pos q, q⟩
  · exact .inr ⟨if_neg q, q⟩
set_option maxRecDepth 100000 in
set_option maxHeartbeats 2000000 in
theorem fnamed_is (h : St B G w s H L W) (a : Int) : Calls Tryz.prog 130 #[.pointer (some ⟨s, 0, none⟩), .int .i64 a] w fun e w' => ∃ v, e = .returned v ∧ ErrIs w' (namE H L W a) v ∧ Below w.heap.size w w' := by
  have HS := Lib.hid (fshape_is h a)
  have HT := Lib.hid (fun u (y : Below w.heap.size w u) => (h.below y).ty.1)
  have hcase : (shpE H L W a = 7 ∧ namE H L W a = 0) ∨ (shpE H L W a = 0 ∧ namE H L W a = 0) ∨ (shpE H L W a = 1 ∧ namE H L W a = 1) := by
    by_cases e : a = 0
    · exact .inl ⟨by rw [shpE, if_pos e], by rw [namE, if_pos (.inl e)]⟩
    · by_cases o : objB H L W a = true
      · exact .inr (.inl ⟨by rw [shpE, if_neg e, if_pos o], by rw [namE, if_pos (.inr o)]⟩)
      · exact .inr (.inr ⟨by rw [shpE, if_neg e, if_neg o], by rw [namE, if_neg (fun z => z.elim e o)]⟩)
  clear h
  generalize shpE H L W a = x at *
  generalize namE H L W a = y at *
  generalize shpS H L W a = ps at *
  generalize shpW H L W a = pw at *
  rcases hcase with ⟨rfl, rfl⟩ | ⟨rfl, rfl⟩ | ⟨rfl, rfl⟩
  all_goals
    go_enter Tryz.func130, Tryz.ntmps130
    go_wp2_with (first
      | (go_at_call 147; refine HS.out.mono ?_; rintro e w1 ⟨v1, rfl, he1, b1⟩; have H1 := Lib.hid (And.intro he1 b1); clear he1 b1)
      | (go_at_call 157; refine (is_err _ 7 (by decide) _ _ H1.out.1 (HT.out _ H1.out.2)).mono ?_; rintro e w2 ⟨rfl, b2⟩; have H2 := Lib.hid (And.intro (H1.out.1.below b2) (geo_next H1.out.2 b2)); clear b2)
      | (go_at_call 123; refine (in_err _ _ _ _ H2.out.1).mono ?_; rintro e w3 ⟨v3, rfl, b3, he3⟩; have H3 := Lib.hid (And.intro he3 (geo_next H2.out.2 b3)); clear b3 he3))
    go_ret
  · exact ⟨.nilIface, rfl, errNil _, H2.out.2⟩
  · exact ⟨v3, rfl, H3.out.1, H3.out.2⟩
  · exact ⟨v3, rfl, H3.out.1, H3.out.2⟩
set_option maxRecDepth 100000 in
set_option maxHeartbeats 4000000 in
theorem froot_is (h : St B G w s H L W) (i a : Int) : Calls Tryz.prog 63 #[.pointer (some ⟨s, 0, none⟩), .int .i64 i, .int .i64 a] w fun e w' => ∃ v, e = .returned (.tuple #[.int .i64 (if srE H L W i a = 0 then 8 + i else 0), v]) ∧ ErrIs w' (srE H L W i a) v ∧ Below w.heap.size w w' := by
  have HN := Lib.hid (fnamed_is h a)
  have HO := Lib.hid (fun u (y : Below w.heap.size w u) => fnone_is (h.below y))
  have hcase : ((i < 0 ∧ srE H L W i a = 8) ∨ (0 ≤ i ∧ 8 ≤ i ∧ srE H L W i a = 8)) ∨ (¬ i < 0 ∧ ¬ 8 ≤ i ∧ namE H L W a = 0 ∧ srE H L W i a = 0) ∨ (¬ i < 0 ∧ ¬ 8 ≤ i ∧ namE H L W a = 1 ∧ srE H L W i a = 1) := by
    by_cases c0 : i < 0
    · exact .inl (.inl ⟨c0, by rw [srE, if_pos (.inl c0)]⟩)
    · by_cases c1 : 8 ≤ i
      · exact .inl (.inr ⟨by omega, c1, by rw [srE, if_pos (.inr c1)]⟩)
      · rcases nam_cases H L W a with ⟨q, o⟩ | ⟨q, o⟩
        · exact .inr (.inl ⟨c0, c1, q, by rw [srE, if_neg (by omega), if_pos o]⟩)
        · exact .inr (.inr ⟨c0, c1, q, by rw [srE, if_neg (by omega), if_neg o]⟩)
  clear h
  generalize srE H L W i a = x at *
  generalize namE H L W a = y at *
  rcases hcase with (⟨c0, rfl⟩ | ⟨c0, c1, rfl⟩) | ⟨c0, c1, rfl, rfl⟩ | ⟨c0, c1, rfl, rfl⟩
  iterate 2
    · rw [if_neg (by decide)]
      go_enter Tryz.func63, Tryz.ntmps63
      go_wp2_with (first
        | (go_at_call 130; refine HN.out.mono ?_; rintro e w1 ⟨v1, rfl, he1, b1⟩; have H1 := Lib.hid b1; clear he1 b1)
        | (go_at_call 131; refine (HO.out _ H1.out).mono ?_; rintro e w2 ⟨rfl, b2⟩; have H2 := Lib.hid (geo_next H1.out b2); clear b2)
        | (go_at_call 124; refine (new_err 8 i _).mono ?_; rintro e w3 ⟨v3, rfl, b3, he3⟩; have H3 := Lib.hid (And.intro he3 (geo_next H2.out b3)); clear b3 he3)
        | (go_at_call 123; refine (in_err _ _ _ _ H3.out.1).mono ?_; rintro e w4 ⟨v4, rfl, b4, he4⟩; have H4 := Lib.hid (And.intro he4 (geo_next H3.out.2 b4)); clear b4 he4))
      all_goals go_ret2
      all_goals exact ⟨v4, rfl, H4.out.1, H4.out.2⟩
  · rw [if_pos rfl]
    go_enter Tryz.func63, Tryz.ntmps63
    go_wp2_with (first
      | (go_at_call 130; refine HN.out.mono ?_; rintro e w1 ⟨v1, rfl, he1, b1⟩; obtain rfl := he1.nil; have H1 := Lib.hid b1; clear he1 b1)
      | (go_at_call 131; refine (HO.out _ H1.out).mono ?_; rintro e w2 ⟨rfl, b2⟩; have H2 := Lib.hid (geo_next H1.out b2); clear b2))
    all_goals go_ret2
    all_goals exact ⟨.nilIface, rfl, errNil _, H2.out⟩
  · rw [if_neg (by decide)]
    go_enter Tryz.func63, Tryz.ntmps63
    go_wp2_with (first
      | (go_at_call 130; refine HN.out.mono ?_; rintro e w1 ⟨v1, rfl, he1, b1⟩; obtain ⟨tv, vv, rfl⟩ := he1.iface (by decide); have H1 := Lib.hid (And.intro he1 b1); clear he1 b1)
      | (go_at_call 131; refine (HO.out _ H1.out.2).mono ?_; rintro e w2 ⟨rfl, b2⟩; have H2 := Lib.hid (And.intro (H1.out.1.below b2) (geo_next H1.out.2 b2)); clear b2)
      | (go_at_call 123; refine (in_err _ _ _ _ H2.out.1).mono ?_; rintro e w4 ⟨v4, rfl, b4, he4⟩; have H4 := Lib.hid (And.intro he4 (geo_next H2.out.2 b4)); clear b4 he4))
    all_goals go_ret2
    all_goals exact ⟨v4, rfl, H4.out.1, H4.out.2⟩
set_option maxRecDepth 100000 in
set_option maxHeartbeats 2000000 in
theorem fwrite_is (h : St B G w s H L W) (c v x : Int) (r : Value) (he : ErrIs w x r) : Calls Tryz.prog 72 #[.pointer (some ⟨s, 0, none⟩), .int .i64 c, .int .i64 v, r] w fun e w' => e = .returned (.int .i64 x) ∧ St B G w' s H L (if x = 0 then setW W (16 + 2 * H) c v else W) ∧ Below B w w' ∧ KeptG G w w' := by
  by_cases q : x = 0
  · subst q
    obtain rfl := he.nil
    rw [if_pos rfl]
    have HS := Lib.hid (st_set h c v)
    clear h he
    generalize setW W (16 + 2 * H) c v = V at *
    generalize setB (16 + 2 * H) c v = t at *
    go_enter Tryz.func72, Tryz.ntmps72
    go_wp2_with (first
      | (go_at_call 50; refine HS.out.mono ?_; rintro e w1 ⟨rfl, h1, b1, k1⟩; have H1 := Lib.hid (And.intro h1 (And.intro b1 k1)); clear h1 b1 k1)
      | (go_at_call 55; refine (errno_err 0 _ _ (errNil _) H1.out.1.ty.1).mono ?_; rintro e w2 ⟨rfl, b2⟩; have H2 := Lib.hid (And.intro (H1.out.1.below b2) (And.intro (H1.out.2.1.trans (b2.mono H1.out.1.le)) (H1.out.2.2.trans (H1.out.1.keptG b2)))); clear b2))
    go_ret
    exact ⟨rfl, H2.out⟩
  · rw [if_neg q]
    obtain ⟨tv, vv, rfl⟩ := he.iface q
    have HE := Lib.hid (errno_err x _ w he h.ty.1)
    have HH := Lib.hid (fun u (y : Below w.heap.size w u) => (show St B G u s H L W ∧ Below B w u ∧ KeptG G w u from ⟨h.below y, y.mono h.le, h.keptG y⟩))
    clear h he
    go_enter Tryz.func72, Tryz.ntmps72
    go_wp2_with (first
      | (go_at_call 55; refine HE.out.mono ?_; rintro e w2 ⟨rfl, b2⟩; have H2 := Lib.hid (HH.out _ b2); clear b2))
    go_ret
    exact ⟨rfl, H2.out⟩
set_option maxRecDepth 100000 in
set_option maxHeartbeats 4000000 in
theorem fcurrent_is (h : St B G w s H L W) (c x : Int) (r : Value) (he : ErrIs w x r) (m : Nat) (hm : x = 0 → c = (m : Int) ∧ m < 16 + 2 * H) :
    Calls Tryz.prog 64 #[.pointer (some ⟨s, 0, none⟩), .int .i64 c, r] w fun e w' => ∃ v, e = .returned (.tuple #[.int .i64 (if x = 0 then celV H L W m else 0), v]) ∧ ErrIs w' (if x = 0 then celE H L W m else x) v ∧ St B G w' s H L (if x = 0 then celW H L W m else W) ∧ Below B w w' ∧ KeptG G w w' := by
  by_cases q : x = 0
  · subst q
    obtain rfl := he.nil
    have hm0 := hm rfl
    clear hm
    obtain ⟨hc, hm⟩ := hm0
    rw [if_pos rfl, if_pos rfl, if_pos rfl]
    have hl := h.len
    have hge := h.ge
    have hnum := h.num m
    have HG := Lib.hid (st_get h c)
    rw [show wkC W (16 + 2 * H) c = W.getD m 0 by rw [wkC, if_pos (by omega), hc, Int.toNat_natCast]] at HG
    have HF := Lib.hid (fun u (y : Below w.heap.size w u) => fFollow_is (h.below y) (W.getD m 0))
    have HK := Lib.hid (fun u (y : Below w.heap.size w u) => (show Below B w u ∧ KeptG G w u from ⟨y.mono h.le, h.keptG y⟩))
    have HSt := Lib.hid (fun u V (y : St B G u s H L V) => st_set y c (folV H L W (W.getD m 0)))
    have hcN : 0 ≤ c ∧ c < ((16 + 2 * H : Nat) : Int) := by omega
    have hvr := fol_v (l := (L : Int)) (show (W.length : Int) = 16 + 2 * (H : Int) by omega) (show NumC W from fun i => h.num i) (W.getD m 0) hnum.1 hnum.2
    by_cases e0 : celE H L W m = 0
    · have eW : setW (folW H L W (W.getD m 0)) (16 + 2 * H) c (folV H L W (W.getD m 0)) = celW H L W m := by
        rw [setW_yes hcN hvr, celW, if_pos e0, hc, Int.toNat_natCast, celV]
      have HW := Lib.hid eW
      rw [e0]
      rw [show folE H L W (W.getD m 0) = 0 from e0] at HF
      clear h he hl hge hnum hvr e0 eW hc hm hcN
      rw [show celV H L W m = folV H L W (W.getD m 0) from rfl]
      generalize folV H L W (W.getD m 0) = fv at *
      generalize folW H L W (W.getD m 0) = fw at *
      generalize celW H L W m = cw at *
      generalize W.getD m 0 = z at *
      generalize setB (16 + 2 * H) c fv = t at *
      go_enter Tryz.func64, Tryz.ntmps64
      go_wp2_with (first
        | (go_at_call 74; refine HG.out.mono ?_; rintro e w1 ⟨rfl, b1⟩; have H1 := Lib.hid b1; clear b1)
        | (go_at_call 132; refine (HF.out _ H1.out).mono ?_; rintro e w2 ⟨rfl, h2, b2, k2⟩; have H2 := Lib.hid (And.intro h2 (And.intro ((HK.out _ H1.out).1.trans b2) ((HK.out _ H1.out).2.trans k2))); clear h2 b2 k2)
        | (go_at_call 50; refine (HSt.out _ _ H2.out.1).mono ?_; rintro e w3 ⟨rfl, h3, b3, k3⟩; rw [HW.out] at h3; have H3 := Lib.hid (And.intro h3 (And.intro (H2.out.2.1.trans b3) (H2.out.2.2.trans k3))); clear h3 b3 k3))
      all_goals go_ret2
      all_goals exact ⟨.nilIface, rfl, errNil _, H3.out⟩
    · have eE : folE H L W (W.getD m 0) ≠ 0 := e0
      have eV : celV H L W m = 0 := folV_no eE
      have eW : celW H L W m = W := if_neg e0
      rw [eV, eW]
      rw [folV_no eE, folW_no eE, show folE H L W (W.getD m 0) = celE H L W m from rfl] at HF
      clear h he hl hge hnum hvr eE eV eW hc hm HSt hcN
      generalize celE H L W m = ee at *
      generalize W.getD m 0 = z at *
      go_enter Tryz.func64, Tryz.ntmps64
      go_wp2_with (first
        | (go_at_call 74; refine HG.out.mono ?_; rintro e w1 ⟨rfl, b1⟩; have H1 := Lib.hid b1; clear b1)
        | (go_at_call 132; refine (HF.out _ H1.out).mono ?_; rintro e w2 ⟨rfl, h2, b2, k2⟩; have H2 := Lib.hid (And.intro h2 (And.intro ((HK.out _ H1.out).1.trans b2) ((HK.out _ H1.out).2.trans k2))); clear h2 b2 k2)
        | (go_at_call 124; refine (new_err ee c _).mono ?_; rintro e w3 ⟨v3, rfl, b3, he3⟩; have H3 := Lib.hid (And.intro he3 b3); clear b3 he3)
        | (go_at_call 123; refine (in_err _ _ _ _ H3.out.1).mono ?_; rintro e w4 ⟨v4, rfl, b4, he4⟩; have H4 := Lib.hid (And.intro he4 (geo_next H3.out.2 b4)); clear b4 he4))
      all_goals go_ret2
      all_goals exact ⟨v4, rfl, H4.out.1, H2.out.1.below H4.out.2, H2.out.2.1.trans (H4.out.2.mono H2.out.1.le), H2.out.2.2.trans (H2.out.1.keptG H4.out.2)⟩
  · rw [if_neg q, if_neg q, if_neg q]
    obtain ⟨tv, vv, rfl⟩ := he.iface q
    have HH := Lib.hid (show St B G w s H L W ∧ Below B w w ∧ KeptG G w w from ⟨h, Below.refl _ _, h.keptG (Below.refl _ _)⟩)
    have HE := Lib.hid he
    clear h he hm
    go_enter Tryz.func64, Tryz.ntmps64
    go_wp2_with fail
    go_ret2
    exact ⟨_, rfl, HE.out, HH.out⟩
end
end Go.Proofs.YtiiioeodanmieaaGreatDoor
-- FieldCalls
namespace Go.Proofs.YtiiioeodanmieaaGreatDoor
open Go.RowKit Sec
open Go.Proofs.YtiiioeodanmieaaGreatDoor.Bk

section
variable {B : Nat} {G : Nat → Prop} {w : World} {s H L : Nat} {W : List Int}
theorem obj_num {H : Nat} {l : Int} {W : List Int} {a : Int} (hl : W.length = 16 + 2 * H) (hH : H ≤ 400) (o : a = 0 ∨ objB H l W a = true) : 0 ≤ a ∧ a < 4294967296 := by
  rcases o with rfl | o
  · exact ⟨by decide, by decide⟩
  · obtain ⟨n, rfl, h1, h2, _⟩ := objB_at (by omega) o
    omega
set_option maxRecDepth 100000 in
set_option maxHeartbeats 2000000 in
theorem fRoot_is (h : St B G w s H L W) (i : Int) : Calls Tryz.prog 23 #[.pointer (some ⟨s, 0, none⟩), .int .i64 i] w fun e w' => e = .returned (.tuple #[.int .i64 (rootV H L W i), .int .i64 (rootE H L W i)]) ∧ St B G w' s H L (rootW H L W i) ∧ Below B w w' ∧ KeptG G w w' := by
  have HR := Lib.hid (froot_is h i 0)
  have HK := Lib.hid (fun u (y : Below w.heap.size w u) => (show Below B w u ∧ KeptG G w u from ⟨y.mono h.le, h.keptG y⟩))
  have hge := h.ge
  have hcase : (srE H L W i 0 = 8 ∧ rootE H L W i = 8 ∧ rootV H L W i = 0 ∧ rootW H L W i = W) ∨ (srE H L W i 0 = 0 ∧ 0 ≤ i ∧ i < 8 ∧ rootE H L W i = celE H L W (8 + i.toNat) ∧ rootV H L W i = celV H L W (8 + i.toNat) ∧ rootW H L W i = celW H L W (8 + i.toNat)) := by
    by_cases q : i < 0 ∨ 8 ≤ i
    · exact .inl ⟨by rw [srE, if_pos q], by rw [rootE, if_pos q], by rw [rootV, if_pos q], by rw [rootW, if_pos q]⟩
    · exact .inr ⟨by rw [srE, if_neg q, if_pos (.inl rfl)], by omega, by omega, by rw [rootE, if_neg q], by rw [rootV, if_neg q], by rw [rootW, if_neg q]⟩
  rcases hcase with ⟨e0, e1, e2, e3⟩ | ⟨e0, i0, i8, e1, e2, e3⟩
  · rw [e0, if_neg (by decide)] at HR
    rw [e1, e2, e3]
    have HC := Lib.hid (fun u c r (y : Below w.heap.size w u) (he : ErrIs u 8 r) => by
      have := fcurrent_is (h.below y) c 8 r he 0 (fun q => absurd q (by decide))
      rwa [if_neg (by decide), if_neg (by decide), if_neg (by decide)] at this)
    clear h e0 e1 e2 e3 hge
    go_enter Tryz.func23, Tryz.ntmps23
    go_wp2_with (first
      | (go_at_call 63; refine HR.out.mono ?_; rintro e w1 ⟨v1, rfl, he1, b1⟩; have H1 := Lib.hid (And.intro he1 b1); clear he1 b1)
      | (go_at_call 64; refine (HC.out _ _ _ H1.out.2 H1.out.1).mono ?_; rintro e w2 ⟨v2, rfl, he2, h2, b2, k2⟩; have H2 := Lib.hid (And.intro he2 (And.intro h2 (And.intro ((HK.out _ H1.out.2).1.trans b2) ((HK.out _ H1.out.2).2.trans k2)))); clear he2 h2 b2 k2)
      | (go_at_call 55; refine (errno_err 8 _ _ H2.out.1 H2.out.2.1.ty.1).mono ?_; rintro e w3 ⟨rfl, b3⟩; have H3 := Lib.hid (And.intro (H2.out.2.1.below b3) (And.intro (H2.out.2.2.1.trans (b3.mono H2.out.2.1.le)) (H2.out.2.2.2.trans (H2.out.2.1.keptG b3)))); clear b3))
    go_ret2
    exact ⟨rfl, H3.out⟩
  · rw [e0, if_pos rfl] at HR
    rw [e1, e2, e3]
    have hm : (0 : Int) = 0 → (8 : Int) + i = ((8 + i.toNat : Nat) : Int) ∧ 8 + i.toNat < 16 + 2 * H := fun _ => by omega
    have HC := Lib.hid (fun u r (y : Below w.heap.size w u) (he : ErrIs u 0 r) => by
      have := fcurrent_is (h.below y) (8 + i) 0 r he (8 + i.toNat) hm
      rwa [if_pos rfl, if_pos rfl, if_pos rfl] at this)
    clear h e0 e1 e2 e3 hm hge
    generalize 8 + i.toNat = m at *
    generalize celW H L W m = V at *
    generalize celE H L W m = x at *
    generalize celV H L W m = p at *
    go_enter Tryz.func23, Tryz.ntmps23
    go_wp2_with (first
      | (go_at_call 63; refine HR.out.mono ?_; rintro e w1 ⟨v1, rfl, he1, b1⟩; have H1 := Lib.hid (And.intro he1 b1); clear he1 b1)
      | (go_at_call 64; refine (HC.out _ _ H1.out.2 H1.out.1).mono ?_; rintro e w2 ⟨v2, rfl, he2, h2, b2, k2⟩; have H2 := Lib.hid (And.intro he2 (And.intro h2 (And.intro ((HK.out _ H1.out.2).1.trans b2) ((HK.out _ H1.out.2).2.trans k2)))); clear he2 h2 b2 k2)
      | (go_at_call 55; refine (errno_err x _ _ H2.out.1 H2.out.2.1.ty.1).mono ?_; rintro e w3 ⟨rfl, b3⟩; have H3 := Lib.hid (And.intro (H2.out.2.1.below b3) (And.intro (H2.out.2.2.1.trans (b3.mono H2.out.2.1.le)) (H2.out.2.2.2.trans (H2.out.2.1.keptG b3)))); clear b3))
    go_ret2
    exact ⟨rfl, H3.out⟩
set_option maxRecDepth 100000 in
set_option maxHeartbeats 2000000 in
theorem fSetRoot_is (h : St B G w s H L W) (i a : Int) : Calls Tryz.prog 27 #[.pointer (some ⟨s, 0, none⟩), .int .i64 i, .int .i64 a] w fun e w' => e = .returned (.int .i64 (srE H L W i a)) ∧ St B G w' s H L (srW H L W i a) ∧ Below B w w' ∧ KeptG G w w' := by
  have HR := Lib.hid (froot_is h i a)
  have HK := Lib.hid (fun u (y : Below w.heap.size w u) => (show Below B w u ∧ KeptG G w u from ⟨y.mono h.le, h.keptG y⟩))
  have hW : srW H L W i a = if srE H L W i a = 0 then setW W (16 + 2 * H) (if srE H L W i a = 0 then 8 + i else 0) a else W := by
    by_cases q : srE H L W i a = 0
    · rw [srW, if_pos q, if_pos q, if_pos q, setW_yes]
      · rw [srE] at q
        split at q
        · exact absurd q (by decide)
        · omega
      · refine obj_num h.len h.ge.2.1 (l := (L : Int)) ?_
        rw [srE] at q
        split at q
        · exact absurd q (by decide)
        · split at q
          · assumption
          · exact absurd q (by decide)
    · rw [srW, if_neg q, if_neg q]
  have HC := Lib.hid (fun u r (y : Below w.heap.size w u) (he : ErrIs u (srE H L W i a) r) => fwrite_is (h.below y) (if srE H L W i a = 0 then 8 + i else 0) a (srE H L W i a) r he)
  rw [← hW] at HC
  clear h hW
  generalize srW H L W i a = V at *
  generalize srE H L W i a = x at *
  generalize (if x = 0 then 8 + i else 0) = c at *
  go_enter Tryz.func27, Tryz.ntmps27
  go_wp2_with (first
    | (go_at_call 63; refine HR.out.mono ?_; rintro e w1 ⟨v1, rfl, he1, b1⟩; have H1 := Lib.hid (And.intro he1 b1); clear he1 b1)
    | (go_at_call 72; refine (HC.out _ _ H1.out.2 H1.out.1).mono ?_; rintro e w2 ⟨rfl, h2, b2, k2⟩; have H2 := Lib.hid (And.intro h2 (And.intro ((HK.out _ H1.out.2).1.trans b2) ((HK.out _ H1.out.2).2.trans k2))); clear h2 b2 k2))
  go_ret
  exact ⟨rfl, H2.out⟩
end
end Go.Proofs.YtiiioeodanmieaaGreatDoor
