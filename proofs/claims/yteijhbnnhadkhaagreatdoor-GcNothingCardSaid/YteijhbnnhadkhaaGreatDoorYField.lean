/- FieldOf, FieldCalls -/
import Derived.Test.YteijhbnnhadkhaaGreatDoorYFieldIs
import Derived.Test.YteijhbnnhadkhaaGreatDoorYHeapC
set_option linter.unusedVariables false
set_option linter.unusedSimpArgs false
-- FieldOf
/- Package field: named, root, slot, word, write, current. -/
namespace Go.Proofs.YteijhbnnhadkhaaGreatDoor
open Go.RowKit Sec
open Go.Proofs.YteijhbnnhadkhaaGreatDoor.Bk

theorem setW_yes {V : List Int} {N : Nat} {c v : Int} (hc : 0 ≤ c ∧ c < (N : Int)) (hv : 0 ≤ v ∧ v < 4294967296) : setW V N c v = V.set c.toNat v := by
  rw [setW, if_pos (show setB N c v = true from decide_eq_true ⟨hc, hv⟩)]
section
variable {B : Nat} {G : Nat → Prop} {w : World} {s H L : Nat} {W : List Int}
theorem nam_cases (h l : Int) (W : List Int) (a : Int) : (namE h l W a = 0 ∧ (a = 0 ∨ objB h l W a = true)) ∨ (namE h l W a = 1 ∧ ¬ (a = 0 ∨ objB h l W a = true)) := by
  by_cases q : a = 0 ∨ objB h l W a = true
  · exact .inl ⟨if_pos q, q⟩
  · exact .inr ⟨if_neg q, q⟩
set_option maxRecDepth 100000 in
set_option maxHeartbeats 2000000 in
theorem fnamed_is (h : St B G w s H L W) (a : Int) : Calls Tryz.prog 130 #[.pointer (some ⟨s, 0, none⟩), .int .i64 a] w fun e w' => ∃ v, e = .returned v ∧ ErrIs w' (namE H L W a) v ∧ Below w.heap.size w w' := by
  have HS := Lib.hid (fshape_is h a)
  have HT := Lib.hid (fun u (y : Below w.heap.size w u) => (h.below y).ty.1)
  have hcase : (shpE H L W a = 7 ∧ namE H L W a = 0) ∨ (shpE H L W a = 0 ∧ namE H L W a = 0) ∨ (shpE H L W a = 1 ∧ namE H L W a = 1) := by
    by_cases e : a = 0
    · exact .inl ⟨by rw [shpE, if_pos e], by rw [namE, if_pos (.inl e)]⟩
    · by_cases o : objB H L W a = true
      · exact .inr (.inl ⟨by rw [shpE, if_neg e, if_pos o], by rw [namE, if_pos (.inr o)]⟩)
      · exact .inr (.inr ⟨by rw [shpE, if_neg e, if_neg o], by rw [namE, if_neg (fun z => z.elim e o)]⟩)
  clear h
  generalize shpE H L W a = x at *
  generalize namE H L W a = y at *
  generalize shpS H L W a = ps at *
  generalize shpW H L W a = pw at *
  rcases hcase with ⟨rfl, rfl⟩ | ⟨rfl, rfl⟩ | ⟨rfl, rfl⟩
  all_goals
    go_enter Tryz.func130, Tryz.ntmps130
    go_wp2_with (first
      | (go_at_call 147; refine HS.out.mono ?_; rintro e w1 ⟨v1, rfl, he1, b1⟩; have H1 := Lib.hid (And.intro he1 b1); clear he1 b1)
      | (go_at_call 157; refine (is_err _ 7 (by decide) _ _ H1.out.1 (HT.out _ H1.out.2)).mono ?_; rintro e w2 ⟨rfl, b2⟩; have H2 := Lib.hid (And.intro (H1.out.1.below b2) (geo_next H1.out.2 b2)); clear b2)
      | (go_at_call 123; refine (in_err _ _ _ _ H2.out.1).mono ?_; rintro e w3 ⟨v3, rfl, b3, he3⟩; have H3 := Lib.hid (And.intro he3 (geo_next H2.out.2 b3)); clear b3 he3))
    go_ret
  · exact ⟨.nilIface, rfl, errNil _, H2.out.2⟩
  · exact ⟨v3, rfl, H3.out.1, H3.out.2⟩
  · exact ⟨v3, rfl, H3.out.1, H3.out.2⟩
set_option maxRecDepth 100000 in
set_option maxHeartbeats 4000000 in
theorem froot_is (h : St B G w s H L W) (i a : Int) : Calls Tryz.prog 63 #[.pointer (some ⟨s, 0, none⟩), .int .i64 i, .int .i64 a] w fun e w' => ∃ v, e = .returned (.tuple #[.int .i64 (if srE H L W i a = 0 then 8 + i else 0), v]) ∧ ErrIs w' (srE H L W i a) v ∧ Below w.heap.size w w' := by
  have HN := Lib.hid (fnamed_is h a)
  have HO := Lib.hid (fun u (y : Below w.heap.size w u) => fnone_is (h.below y))
  have hcase : ((i < 0 ∧ srE H L W i a = 8) ∨ (0 ≤ i ∧ 8 ≤ i ∧ srE H L W i a = 8)) ∨ (¬ i < 0 ∧ ¬ 8 ≤ i ∧ namE H L W a = 0 ∧ srE H L W i a = 0) ∨ (¬ i < 0 ∧ ¬ 8 ≤ i ∧ namE H L W a = 1 ∧ srE H L W i a = 1) := by
    by_cases c0 : i < 0
    · exact .inl (.inl ⟨c0, by rw [srE, if_pos (.inl c0)]⟩)
    · by_cases c1 : 8 ≤ i
      · exact .inl (.inr ⟨by omega, c1, by rw [srE, if_pos (.inr c1)]⟩)
      · rcases nam_cases H L W a with ⟨q, o⟩ | ⟨q, o⟩
        · exact .inr (.inl ⟨c0, c1, q, by rw [srE, if_neg (by omega), if_pos o]⟩)
        · exact .inr (.inr ⟨c0, c1, q, by rw [srE, if_neg (by omega), if_neg o]⟩)
  clear h
  generalize srE H L W i a = x at *
  generalize namE H L W a = y at *
  rcases hcase with (⟨c0, rfl⟩ | ⟨c0, c1, rfl⟩) | ⟨c0, c1, rfl, rfl⟩ | ⟨c0, c1, rfl, rfl⟩
  iterate 2
    · rw [if_neg (by decide)]
      go_enter Tryz.func63, Tryz.ntmps63
      go_wp2_with (first
        | (go_at_call 130; refine HN.out.mono ?_; rintro e w1 ⟨v1, rfl, he1, b1⟩; have H1 := Lib.hid b1; clear he1 b1)
        | (go_at_call 131; refine (HO.out _ H1.out).mono ?_; rintro e w2 ⟨rfl, b2⟩; have H2 := Lib.hid (geo_next H1.out b2); clear b2)
        | (go_at_call 124; refine (new_err 8 i _).mono ?_; rintro e w3 ⟨v3, rfl, b3, he3⟩; have H3 := Lib.hid (And.intro he3 (geo_next H2.out b3)); clear b3 he3)
        | (go_at_call 123; refine (in_err _ _ _ _ H3.out.1).mono ?_; rintro e w4 ⟨v4, rfl, b4, he4⟩; have H4 := Lib.hid (And.intro he4 (geo_next H3.out.2 b4)); clear b4 he4))
      all_goals go_ret2
      all_goals exact ⟨v4, rfl, H4.out.1, H4.out.2⟩
  · rw [if_pos rfl]
    go_enter Tryz.func63, Tryz.ntmps63
    go_wp2_with (first
      | (go_at_call 130; refine HN.out.mono ?_; rintro e w1 ⟨v1, rfl, he1, b1⟩; obtain rfl := he1.nil; have H1 := Lib.hid b1; clear he1 b1)
      | (go_at_call 131; refine (HO.out _ H1.out).mono ?_; rintro e w2 ⟨rfl, b2⟩; have H2 := Lib.hid (geo_next H1.out b2); clear b2))
    all_goals go_ret2
    all_goals exact ⟨.nilIface, rfl, errNil _, H2.out⟩
  · rw [if_neg (by decide)]
    go_enter Tryz.func63, Tryz.ntmps63
    go_wp2_with (first
      | (go_at_call 130; refine HN.out.mono ?_; rintro e w1 ⟨v1, rfl, he1, b1⟩; obtain ⟨tv, vv, rfl⟩ := he1.iface (by decide); have H1 := Lib.hid (And.intro he1 b1); clear he1 b1)
      | (go_at_call 131; refine (HO.out _ H1.out.2).mono ?_; rintro e w2 ⟨rfl, b2⟩; have H2 := Lib.hid (And.intro (H1.out.1.below b2) (geo_next H1.out.2 b2)); clear b2)
      | (go_at_call 123; refine (in_err _ _ _ _ H2.out.1).mono ?_; rintro e w4 ⟨v4, rfl, b4, he4⟩; have H4 := Lib.hid (And.intro he4 (geo_next H2.out.2 b4)); clear b4 he4))
    all_goals go_ret2
    all_goals exact ⟨v4, rfl, H4.out.1, H4.out.2⟩
set_option maxRecDepth 100000 in
set_option maxHeartbeats 4000000 in
theorem fword_is (h : St B G w s H L W) (a i v : Int) : Calls Tryz.prog 112 #[.pointer (some ⟨s, 0, none⟩), .int .i64 a, .int .i64 i, .int .i64 v] w fun e w' => ∃ r, e = .returned (.tuple #[.int .i64 (if swE H L W a i v = 0 then a + 1 + shpS H L W a + i else 0), r]) ∧ ErrIs w' (swE H L W a i v) r ∧ Below w.heap.size w w' := by
  have HS := Lib.hid (fshape_is h a)
  have hl := h.len
  have hge := h.ge
  by_cases q : shpE H L W a = 0
  · obtain ⟨n, hn, h1, h2, h3, h4, h5, h6⟩ := shp_at (by omega) q
    have hb : 0 ≤ a ∧ a ≤ 816 := by omega
    have hcase : ((v < 0 ∧ swE H L W a i v = 1) ∨ (0 ≤ v ∧ 4294967296 ≤ v ∧ swE H L W a i v = 1)) ∨ (¬ v < 0 ∧ ¬ 4294967296 ≤ v ∧ ((i < 0 ∧ swE H L W a i v = 8) ∨ (0 ≤ i ∧ shpW H L W a ≤ i ∧ swE H L W a i v = 8) ∨ (¬ i < 0 ∧ ¬ shpW H L W a ≤ i ∧ swE H L W a i v = 0))) := by
      by_cases v0 : v < 0
      · exact .inl (.inl ⟨v0, by rw [swE, if_pos q, if_neg (fun z : hbNum v = true => absurd (of_decide_eq_true z) (by omega))]⟩)
      · by_cases v1 : 4294967296 ≤ v
        · exact .inl (.inr ⟨by omega, v1, by rw [swE, if_pos q, if_neg (fun z : hbNum v = true => absurd (of_decide_eq_true z) (by omega))]⟩)
        · have o : hbNum v = true := decide_eq_true (by omega)
          refine .inr ⟨v0, v1, ?_⟩
          by_cases c0 : i < 0
          · exact .inl ⟨c0, by rw [swE, if_pos q, if_pos o, if_pos (.inl c0)]⟩
          · by_cases c1 : shpW H L W a ≤ i
            · exact .inr (.inl ⟨by omega, c1, by rw [swE, if_pos q, if_pos o, if_pos (.inr c1)]⟩)
            · exact .inr (.inr ⟨c0, c1, by rw [swE, if_pos q, if_pos o, if_neg (by omega)]⟩)
    rw [q] at HS
    clear h q hn h1 h6 hl hge
    generalize swE H L W a i v = x at *
    generalize shpS H L W a = ps at *
    generalize shpW H L W a = pw at *
    rcases hcase with (⟨c0, rfl⟩ | ⟨c0, c1, rfl⟩) | ⟨v0, v1, ⟨c0, rfl⟩ | ⟨c0, c1, rfl⟩ | ⟨c0, c1, rfl⟩⟩
    iterate 2
      · rw [if_neg (by decide)]
        go_enter Tryz.func112, Tryz.ntmps112
        go_wp2_with (first
          | (go_at_call 147; refine HS.out.mono ?_; rintro e w1 ⟨v1, rfl, he1, b1⟩; obtain rfl := he1.nil; have H1 := Lib.hid b1; clear he1 b1)
          | (go_at_call 124; refine (new_err 1 v _).mono ?_; rintro e w3 ⟨v3, rfl, b3, he3⟩; have H3 := Lib.hid (And.intro he3 (geo_next H1.out b3)); clear b3 he3)
          | (go_at_call 123; refine (in_err _ _ _ _ H3.out.1).mono ?_; rintro e w4 ⟨v4, rfl, b4, he4⟩; have H4 := Lib.hid (And.intro he4 (geo_next H3.out.2 b4)); clear b4 he4))
        all_goals go_ret2
        all_goals exact ⟨v4, rfl, H4.out.1, H4.out.2⟩
    iterate 2
      · rw [if_neg (by decide)]
        go_enter Tryz.func112, Tryz.ntmps112
        go_wp2_with (first
          | (go_at_call 147; refine HS.out.mono ?_; rintro e w1 ⟨v1, rfl, he1, b1⟩; obtain rfl := he1.nil; have H1 := Lib.hid b1; clear he1 b1)
          | (go_at_call 124; refine (new_err 8 i _).mono ?_; rintro e w3 ⟨v3, rfl, b3, he3⟩; have H3 := Lib.hid (And.intro he3 (geo_next H1.out b3)); clear b3 he3)
          | (go_at_call 123; refine (in_err _ _ _ _ H3.out.1).mono ?_; rintro e w4 ⟨v4, rfl, b4, he4⟩; have H4 := Lib.hid (And.intro he4 (geo_next H3.out.2 b4)); clear b4 he4))
        all_goals go_ret2
        all_goals exact ⟨v4, rfl, H4.out.1, H4.out.2⟩
    · rw [if_pos rfl]
      go_enter Tryz.func112, Tryz.ntmps112
      go_wp2_with (first
        | (go_at_call 147; refine HS.out.mono ?_; rintro e w1 ⟨v1, rfl, he1, b1⟩; obtain rfl := he1.nil; have H1 := Lib.hid b1; clear he1 b1))
      all_goals go_ret2
      all_goals exact ⟨.nilIface, rfl, errNil _, H1.out⟩
  · have eE : swE H L W a i v = shpE H L W a := by rw [swE, if_neg q]
    rw [eE, if_neg q]
    clear h eE hl hge
    generalize shpE H L W a = x at *
    generalize shpS H L W a = ps at *
    generalize shpW H L W a = pw at *
    go_enter Tryz.func112, Tryz.ntmps112
    go_wp2_with (first
      | (go_at_call 147; refine HS.out.mono ?_; rintro e w1 ⟨v1, rfl, he1, b1⟩; obtain ⟨tv, vv, rfl⟩ := he1.iface q; have H1 := Lib.hid (And.intro he1 b1); clear he1 b1)
      | (go_at_call 123; refine (in_err _ _ _ _ H1.out.1).mono ?_; rintro e w4 ⟨v4, rfl, b4, he4⟩; have H4 := Lib.hid (And.intro he4 (geo_next H1.out.2 b4)); clear b4 he4))
    all_goals go_ret2
    all_goals exact ⟨v4, rfl, H4.out.1, H4.out.2⟩
set_option maxRecDepth 100000 in
set_option maxHeartbeats 2000000 in
theorem fwrite_is (h : St B G w s H L W) (c v x : Int) (r : Value) (he : ErrIs w x r) : Calls Tryz.prog 72 #[.pointer (some ⟨s, 0, none⟩), .int .i64 c, .int .i64 v, r] w fun e w' => e = .returned (.int .i64 x) ∧ St B G w' s H L (if x = 0 then setW W (16 + 2 * H) c v else W) ∧ Below B w w' ∧ KeptG G w w' := by
  by_cases q : x = 0
  · subst q
    obtain rfl := he.nil
    rw [if_pos rfl]
    have HS := Lib.hid (st_set h c v)
    clear h he
    generalize setW W (16 + 2 * H) c v = V at *
    generalize setB (16 + 2 * H) c v = t at *
    go_enter Tryz.func72, Tryz.ntmps72
    go_wp2_with (first
      | (go_at_call 50; refine HS.out.mono ?_; rintro e w1 ⟨rfl, h1, b1, k1⟩; have H1 := Lib.hid (And.intro h1 (And.intro b1 k1)); clear h1 b1 k1)
      | (go_at_call 55; refine (errno_err 0 _ _ (errNil _) H1.out.1.ty.1).mono ?_; rintro e w2 ⟨rfl, b2⟩; have H2 := Lib.hid (And.intro (H1.out.1.below b2) (And.intro (H1.out.2.1.trans (b2.mono H1.out.1.le)) (H1.out.2.2.trans (H1.out.1.keptG b2)))); clear b2))
    go_ret
    exact ⟨rfl, H2.out⟩
  · rw [if_neg q]
    obtain ⟨tv, vv, rfl⟩ := he.iface q
    have HE := Lib.hid (errno_err x _ w he h.ty.1)
    have HH := Lib.hid (fun u (y : Below w.heap.size w u) => (show St B G u s H L W ∧ Below B w u ∧ KeptG G w u from ⟨h.below y, y.mono h.le, h.keptG y⟩))
    clear h he
    go_enter Tryz.func72, Tryz.ntmps72
    go_wp2_with (first
      | (go_at_call 55; refine HE.out.mono ?_; rintro e w2 ⟨rfl, b2⟩; have H2 := Lib.hid (HH.out _ b2); clear b2))
    go_ret
    exact ⟨rfl, H2.out⟩
end
end Go.Proofs.YteijhbnnhadkhaaGreatDoor
-- FieldCalls
/- Package field: Root, SetRoot, Load, Put, Word, SetWord, Shape leave what the document's leave. -/
namespace Go.Proofs.YteijhbnnhadkhaaGreatDoor
open Go.RowKit Sec
open Go.Proofs.YteijhbnnhadkhaaGreatDoor.Bk

section
variable {B : Nat} {G : Nat → Prop} {w : World} {s H L : Nat} {W : List Int}
theorem obj_num {H : Nat} {l : Int} {W : List Int} {a : Int} (hl : W.length = 16 + 2 * H) (hH : H ≤ 400) (o : a = 0 ∨ objB H l W a = true) : 0 ≤ a ∧ a < 4294967296 := by
  rcases o with rfl | o
  · exact ⟨by decide, by decide⟩
  · obtain ⟨n, rfl, h1, h2, _⟩ := objB_at (by omega) o
    omega
set_option maxRecDepth 100000 in
set_option maxHeartbeats 2000000 in
theorem fSetRoot_is (h : St B G w s H L W) (i a : Int) : Calls Tryz.prog 27 #[.pointer (some ⟨s, 0, none⟩), .int .i64 i, .int .i64 a] w fun e w' => e = .returned (.int .i64 (srE H L W i a)) ∧ St B G w' s H L (srW H L W i a) ∧ Below B w w' ∧ KeptG G w w' := by
  have HR := Lib.hid (froot_is h i a)
  have HK := Lib.hid (fun u (y : Below w.heap.size w u) => (show Below B w u ∧ KeptG G w u from ⟨y.mono h.le, h.keptG y⟩))
  have hW : srW H L W i a = if srE H L W i a = 0 then setW W (16 + 2 * H) (if srE H L W i a = 0 then 8 + i else 0) a else W := by
    by_cases q : srE H L W i a = 0
    · rw [srW, if_pos q, if_pos q, if_pos q, setW_yes]
      · rw [srE] at q
        split at q
        · exact absurd q (by decide)
        · omega
      · refine obj_num h.len h.ge.2.1 (l := (L : Int)) ?_
        rw [srE] at q
        split at q
        · exact absurd q (by decide)
        · split at q
          · assumption
          · exact absurd q (by decide)
    · rw [srW, if_neg q, if_neg q]
  have HC := Lib.hid (fun u r (y : Below w.heap.size w u) (he : ErrIs u (srE H L W i a) r) => fwrite_is (h.below y) (if srE H L W i a = 0 then 8 + i else 0) a (srE H L W i a) r he)
  rw [← hW] at HC
  clear h hW
  generalize srW H L W i a = V at *
  generalize srE H L W i a = x at *
  generalize (if x = 0 then 8 + i else 0) = c at *
  go_enter Tryz.func27, Tryz.ntmps27
  go_wp2_with (first
    | (go_at_call 63; refine HR.out.mono ?_; rintro e w1 ⟨v1, rfl, he1, b1⟩; have H1 := Lib.hid (And.intro he1 b1); clear he1 b1)
    | (go_at_call 72; refine (HC.out _ _ H1.out.2 H1.out.1).mono ?_; rintro e w2 ⟨rfl, h2, b2, k2⟩; have H2 := Lib.hid (And.intro h2 (And.intro ((HK.out _ H1.out.2).1.trans b2) ((HK.out _ H1.out.2).2.trans k2))); clear h2 b2 k2))
  go_ret
  exact ⟨rfl, H2.out⟩
set_option maxRecDepth 100000 in
set_option maxHeartbeats 2000000 in
theorem fSetWord_is (h : St B G w s H L W) (a i v : Int) : Calls Tryz.prog 46 #[.pointer (some ⟨s, 0, none⟩), .int .i64 a, .int .i64 i, .int .i64 v] w fun e w' => e = .returned (.int .i64 (swE H L W a i v)) ∧ St B G w' s H L (swW H L W a i v) ∧ Below B w w' ∧ KeptG G w w' := by
  have HR := Lib.hid (fword_is h a i v)
  have HK := Lib.hid (fun u (y : Below w.heap.size w u) => (show Below B w u ∧ KeptG G w u from ⟨y.mono h.le, h.keptG y⟩))
  have hW : swW H L W a i v = if swE H L W a i v = 0 then setW W (16 + 2 * H) (if swE H L W a i v = 0 then a + 1 + shpS H L W a + i else 0) v else W := by
    by_cases q : swE H L W a i v = 0
    · rw [swW, if_pos q, if_pos q, if_pos q]
      have hl := h.len
      rw [swE] at q
      by_cases q1 : shpE H L W a = 0
      · rw [if_pos q1] at q
        obtain ⟨n, hn, h1, h2, h3, h4, h5, h6⟩ := shp_at (by omega) q1
        by_cases o : hbNum v = true
        · rw [if_pos o] at q
          have ov := of_decide_eq_true o
          by_cases r : i < 0 ∨ shpW H L W a ≤ i
          · rw [if_pos r] at q
            exact absurd q (by decide)
          · rw [setW_yes (by omega) (by omega)]
        · rw [if_neg o] at q
          exact absurd q (by decide)
      · rw [if_neg q1] at q
        exact absurd q q1
    · rw [swW, if_neg q, if_neg q]
  have HC := Lib.hid (fun u r (y : Below w.heap.size w u) (he : ErrIs u (swE H L W a i v) r) => fwrite_is (h.below y) (if swE H L W a i v = 0 then a + 1 + shpS H L W a + i else 0) v (swE H L W a i v) r he)
  rw [← hW] at HC
  clear h hW
  generalize swW H L W a i v = V at *
  generalize swE H L W a i v = x at *
  generalize (if x = 0 then a + 1 + shpS H L W a + i else 0) = c at *
  go_enter Tryz.func46, Tryz.ntmps46
  go_wp2_with (first
    | (go_at_call 112; refine HR.out.mono ?_; rintro e w1 ⟨v1, rfl, he1, b1⟩; have H1 := Lib.hid (And.intro he1 b1); clear he1 b1)
    | (go_at_call 72; refine (HC.out _ _ H1.out.2 H1.out.1).mono ?_; rintro e w2 ⟨rfl, h2, b2, k2⟩; have H2 := Lib.hid (And.intro h2 (And.intro ((HK.out _ H1.out.2).1.trans b2) ((HK.out _ H1.out.2).2.trans k2))); clear h2 b2 k2))
  go_ret
  exact ⟨rfl, H2.out⟩
set_option maxRecDepth 100000 in
set_option maxHeartbeats 2000000 in
theorem fWord_is (h : St B G w s H L W) (a i : Int) : Calls Tryz.prog 49 #[.pointer (some ⟨s, 0, none⟩), .int .i64 a, .int .i64 i] w fun e w' => e = .returned (.tuple #[.int .i64 (wrdV H L W a i), .int .i64 (wrdE H L W a i)]) ∧ Below w.heap.size w w' := by
  have HR := Lib.hid (fword_is h a i 0)
  have eE : swE H L W a i 0 = wrdE H L W a i := by
    rw [swE, wrdE, if_pos (show hbNum 0 = true by decide)]
  rw [eE] at HR
  have hge := h.ge
  have hl := h.len
  have HG := Lib.hid (fun u c (y : Below w.heap.size w u) => st_get (h.below y) c)
  have HT := Lib.hid (fun u (y : Below w.heap.size w u) => (h.below y).ty.1)
  by_cases q : wrdE H L W a i = 0
  · have eV : wkC W (16 + 2 * H) (a + 1 + shpS H L W a + i) = wrdV H L W a i := by
      rw [wrdV, if_pos q, wkC, if_pos]
      rw [wrdE] at q
      by_cases q1 : shpE H L W a = 0
      · rw [if_pos q1] at q
        obtain ⟨n, hn, h1, h2, h3, h4, h5, h6⟩ := shp_at (by omega) q1
        by_cases r : i < 0 ∨ shpW H L W a ≤ i
        · rw [if_pos r] at q
          exact absurd q (by decide)
        · omega
      · rw [if_neg q1] at q
        exact absurd q q1
    have HV := Lib.hid eV
    rw [q]
    rw [q, if_pos rfl] at HR
    clear h eE q hge hl eV HT
    generalize a + 1 + shpS H L W a + i = c at *
    generalize wrdV H L W a i = v at *
    go_enter Tryz.func49, Tryz.ntmps49
    go_wp2_with (first
      | (go_at_call 112; refine HR.out.mono ?_; rintro e w1 ⟨v1, rfl, he1, b1⟩; obtain rfl := he1.nil; have H1 := Lib.hid b1; clear he1 b1)
      | (go_at_call 74; refine (HG.out _ _ H1.out).mono ?_; rintro e w2 ⟨rfl, b2⟩; rw [HV.out]; have H2 := Lib.hid (geo_next H1.out b2); clear b2))
    go_ret2
    exact ⟨rfl, H2.out⟩
  · rw [wrdV, if_neg q]
    rw [if_neg q] at HR
    clear h eE hge hl HG
    generalize wrdE H L W a i = x at *
    go_enter Tryz.func49, Tryz.ntmps49
    go_wp2_with (first
      | (go_at_call 112; refine HR.out.mono ?_; rintro e w1 ⟨v1, rfl, he1, b1⟩; have HE := Lib.hid he1; obtain ⟨tv, vv, rfl⟩ := he1.iface q; have H1 := Lib.hid (And.intro HE.out b1); clear he1 b1)
      | (go_at_call 55; refine (errno_err x _ _ H1.out.1 (HT.out _ H1.out.2)).mono ?_; rintro e w2 ⟨rfl, b2⟩; have H2 := Lib.hid (geo_next H1.out.2 b2); clear b2))
    go_ret2
    exact ⟨rfl, H2.out⟩
end
end Go.Proofs.YteijhbnnhadkhaaGreatDoor
