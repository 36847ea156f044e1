/- Package field: named, root, slot, word, write, current. -/
import Derived.Test.YtjengjmhjccnoaaGreatDoorZFieldIs
import Derived.Test.YtjengjmhjccnoaaGreatDoorZHeapC
set_option linter.unusedVariables false
set_option linter.unusedSimpArgs false
namespace Go.Proofs.YtjengjmhjccnoaaGreatDoor
open Go.RowKit Sec
open Go.Proofs.YtjengjmhjccnoaaGreatDoor.Bk

theorem setW_yes {V : List Int} {N : Nat} {c v : Int} (hc : 0 ≤ c ∧ c < (N : Int)) (hv : 0 ≤ v ∧ v < 4294967296) : setW V N c v = V.set c.toNat v := by
  rw [setW, if_pos (show setB N c v = true from decide_eq_true ⟨hc, hv⟩)]
section
variable {B : Nat} {G : Nat → Prop} {w : World} {s H L : Nat} {W : List Int}
theorem nam_cases (h l : Int) (W : List Int) (a : Int) : (namE h l W a = 0 ∧ (a = 0 ∨ objB h l W a = true)) ∨ (namE h l W a = 1 ∧ ¬ (a = 0 ∨ objB h l W a = true)) := by
  by_cases q : a = 0 ∨ objB h l W a = true
  · exact .inl ⟨if_pos q, q⟩
  · exact .inr ⟨if_neg q, q⟩
set_option maxRecDepth 100000 in
set_option maxHeartbeats 2000000 in
theorem fnamed_is (h : St B G w s H L W) (a : Int) : Calls Tryz.prog 47 #[.pointer (some ⟨s, 0, none⟩), .int .i64 a] w fun e w' => ∃ v, e = .returned v ∧ ErrIs w' (namE H L W a) v ∧ Below w.heap.size w w' := by
  have HS := Lib.hid (fshape_is h a)
  have HT := Lib.hid (fun u (y : Below w.heap.size w u) => (h.below y).ty.1)
  have hcase : (shpE H L W a = 7 ∧ namE H L W a = 0) ∨ (shpE H L W a = 0 ∧ namE H L W a = 0) ∨ (shpE H L W a = 1 ∧ namE H L W a = 1) := by
    by_cases e : a = 0
    · exact .inl ⟨by rw [shpE, if_pos e], by rw [namE, if_pos (.inl e)]⟩
    · by_cases o : objB H L W a = true
      · exact .inr (.inl ⟨by rw [shpE, if_neg e, if_pos o], by rw [namE, if_pos (.inr o)]⟩)
      · exact .inr (.inr ⟨by rw [shpE, if_neg e, if_neg o], by rw [namE, if_neg (fun z => z.elim e o)]⟩)
  clear h
  generalize shpE H L W a = x at *
  generalize namE H L W a = y at *
  generalize shpS H L W a = ps at *
  generalize shpW H L W a = pw at *
  rcases hcase with ⟨rfl, rfl⟩ | ⟨rfl, rfl⟩ | ⟨rfl, rfl⟩
  all_goals
    go_enter Tryz.func47, Tryz.ntmps47
    go_wp2_with (first
      | (go_at_call 46; refine HS.out.mono ?_; rintro e w1 ⟨v1, rfl, he1, b1⟩; have H1 := Lib.hid (And.intro he1 b1); clear he1 b1)
      | (go_at_call 71; refine (is_err _ 7 (by decide) _ _ H1.out.1 (HT.out _ H1.out.2)).mono ?_; rintro e w2 ⟨rfl, b2⟩; have H2 := Lib.hid (And.intro (H1.out.1.below b2) (geo_next H1.out.2 b2)); clear b2)
      | (go_at_call 48; refine (in_err _ _ _ _ H2.out.1).mono ?_; rintro e w3 ⟨v3, rfl, b3, he3⟩; have H3 := Lib.hid (And.intro he3 (geo_next H2.out.2 b3)); clear b3 he3))
    go_ret
  · exact ⟨.nilIface, rfl, errNil _, H2.out.2⟩
  · exact ⟨v3, rfl, H3.out.1, H3.out.2⟩
  · exact ⟨v3, rfl, H3.out.1, H3.out.2⟩
set_option maxRecDepth 100000 in
set_option maxHeartbeats 4000000 in
theorem froot_is (h : St B G w s H L W) (i a : Int) : Calls Tryz.prog 34 #[.pointer (some ⟨s, 0, none⟩), .int .i64 i, .int .i64 a] w fun e w' => ∃ v, e = .returned (.tuple #[.int .i64 (if srE H L W i a = 0 then 8 + i else 0), v]) ∧ ErrIs w' (srE H L W i a) v ∧ Below w.heap.size w w' := by
  have HN := Lib.hid (fnamed_is h a)
  have HO := Lib.hid (fun u (y : Below w.heap.size w u) => fnone_is (h.below y))
  have hcase : ((i < 0 ∧ srE H L W i a = 8) ∨ (0 ≤ i ∧ 8 ≤ i ∧ srE H L W i a = 8)) ∨ (¬ i < 0 ∧ ¬ 8 ≤ i ∧ namE H L W a = 0 ∧ srE H L W i a = 0) ∨ (¬ i < 0 ∧ ¬ 8 ≤ i ∧ namE H L W a = 1 ∧ srE H L W i a = 1) := by
    by_cases c0 : i < 0
    · exact .inl (.inl ⟨c0, by rw [srE, if_pos (.inl c0)]⟩)
    · by_cases c1 : 8 ≤ i
      · exact .inl (.inr ⟨by omega, c1, by rw [srE, if_pos (.inr c1)]⟩)
      · rcases nam_cases H L W a with ⟨q, o⟩ | ⟨q, o⟩
        · exact .inr (.inl ⟨c0, c1, q, by rw [srE, if_neg (by omega), if_pos o]⟩)
        · exact .inr (.inr ⟨c0, c1, q, by rw [srE, if_neg (by omega), if_neg o]⟩)
  clear h
  generalize srE H L W i a = x at *
  generalize namE H L W a = y at *
  rcases hcase with (⟨c0, rfl⟩ | ⟨c0, c1, rfl⟩) | ⟨c0, c1, rfl, rfl⟩ | ⟨c0, c1, rfl, rfl⟩
  iterate 2
    · rw [if_neg (by decide)]
      go_enter Tryz.func34, Tryz.ntmps34
      go_wp2_with (first
        | (go_at_call 47; refine HN.out.mono ?_; rintro e w1 ⟨v1, rfl, he1, b1⟩; have H1 := Lib.hid b1; clear he1 b1)
        | (go_at_call 53; refine (HO.out _ H1.out).mono ?_; rintro e w2 ⟨rfl, b2⟩; have H2 := Lib.hid (geo_next H1.out b2); clear b2)
        | (go_at_call 49; refine (new_err 8 i _).mono ?_; rintro e w3 ⟨v3, rfl, b3, he3⟩; have H3 := Lib.hid (And.intro he3 (geo_next H2.out b3)); clear b3 he3)
        | (go_at_call 48; refine (in_err _ _ _ _ H3.out.1).mono ?_; rintro e w4 ⟨v4, rfl, b4, he4⟩; have H4 := Lib.hid (And.intro he4 (geo_next H3.out.2 b4)); clear b4 he4))
      all_goals go_ret2
      all_goals exact ⟨v4, rfl, H4.out.1, H4.out.2⟩
  · rw [if_pos rfl]
    go_enter Tryz.func34, Tryz.ntmps34
    go_wp2_with (first
      | (go_at_call 47; refine HN.out.mono ?_; rintro e w1 ⟨v1, rfl, he1, b1⟩; obtain rfl := he1.nil; have H1 := Lib.hid b1; clear he1 b1)
      | (go_at_call 53; refine (HO.out _ H1.out).mono ?_; rintro e w2 ⟨rfl, b2⟩; have H2 := Lib.hid (geo_next H1.out b2); clear b2))
    all_goals go_ret2
    all_goals exact ⟨.nilIface, rfl, errNil _, H2.out⟩
  · rw [if_neg (by decide)]
    go_enter Tryz.func34, Tryz.ntmps34
    go_wp2_with (first
      | (go_at_call 47; refine HN.out.mono ?_; rintro e w1 ⟨v1, rfl, he1, b1⟩; obtain ⟨tv, vv, rfl⟩ := he1.iface (by decide); have H1 := Lib.hid (And.intro he1 b1); clear he1 b1)
      | (go_at_call 53; refine (HO.out _ H1.out.2).mono ?_; rintro e w2 ⟨rfl, b2⟩; have H2 := Lib.hid (And.intro (H1.out.1.below b2) (geo_next H1.out.2 b2)); clear b2)
      | (go_at_call 48; refine (in_err _ _ _ _ H2.out.1).mono ?_; rintro e w4 ⟨v4, rfl, b4, he4⟩; have H4 := Lib.hid (And.intro he4 (geo_next H2.out.2 b4)); clear b4 he4))
    all_goals go_ret2
    all_goals exact ⟨v4, rfl, H4.out.1, H4.out.2⟩
set_option maxRecDepth 100000 in
set_option maxHeartbeats 4000000 in
theorem fslot_is (h : St B G w s H L W) (a i v : Int) : Calls Tryz.prog 28 #[.pointer (some ⟨s, 0, none⟩), .int .i64 a, .int .i64 i, .int .i64 v] w fun e w' => ∃ r, e = .returned (.tuple #[.int .i64 (if ptE H L W a i v = 0 then a + 1 + i else 0), r]) ∧ ErrIs w' (ptE H L W a i v) r ∧ Below w.heap.size w w' := by
  have HS := Lib.hid (fshape_is h a)
  have HN := Lib.hid (fun u (y : Below w.heap.size w u) => fnamed_is (h.below y) v)
  have hl := h.len
  have hge := h.ge
  by_cases q : shpE H L W a = 0
  · obtain ⟨n, hn, h1, h2, h3, h4, h5, h6⟩ := shp_at (by omega) q
    have hb : 0 ≤ a ∧ a ≤ 816 := by omega
    have hcase : (namE H L W v = 1 ∧ ptE H L W a i v = 1) ∨ (namE H L W v = 0 ∧ ((i < 0 ∧ ptE H L W a i v = 8) ∨ (0 ≤ i ∧ shpS H L W a ≤ i ∧ ptE H L W a i v = 8) ∨ (¬ i < 0 ∧ ¬ shpS H L W a ≤ i ∧ ptE H L W a i v = 0))) := by
      rcases nam_cases H L W v with ⟨e, o⟩ | ⟨e, o⟩
      · refine .inr ⟨e, ?_⟩
        by_cases c0 : i < 0
        · exact .inl ⟨c0, by rw [ptE, if_pos q, if_pos o, if_pos (.inl c0)]⟩
        · by_cases c1 : shpS H L W a ≤ i
          · exact .inr (.inl ⟨by omega, c1, by rw [ptE, if_pos q, if_pos o, if_pos (.inr c1)]⟩)
          · exact .inr (.inr ⟨c0, c1, by rw [ptE, if_pos q, if_pos o, if_neg (by omega)]⟩)
      · exact .inl ⟨e, by rw [ptE, if_pos q, if_neg o]⟩
    rw [q] at HS
    clear h q hn h1 h2 h5 h6 hl hge
    generalize ptE H L W a i v = x at *
    generalize namE H L W v = y at *
    generalize shpS H L W a = ps at *
    generalize shpW H L W a = pw at *
    rcases hcase with ⟨rfl, rfl⟩ | ⟨rfl, ⟨c0, rfl⟩ | ⟨c0, c1, rfl⟩ | ⟨c0, c1, rfl⟩⟩
    · rw [if_neg (by decide)]
      go_enter Tryz.func28, Tryz.ntmps28
      go_wp2_with (first
        | (go_at_call 46; refine HS.out.mono ?_; rintro e w1 ⟨v1, rfl, he1, b1⟩; obtain rfl := he1.nil; have H1 := Lib.hid b1; clear he1 b1)
        | (go_at_call 47; refine (HN.out _ H1.out).mono ?_; rintro e w2 ⟨v2, rfl, he2, b2⟩; obtain ⟨tv, vv, rfl⟩ := he2.iface (by decide); have H2 := Lib.hid (And.intro he2 (geo_next H1.out b2)); clear he2 b2)
        | (go_at_call 48; refine (in_err _ _ _ _ H2.out.1).mono ?_; rintro e w4 ⟨v4, rfl, b4, he4⟩; have H4 := Lib.hid (And.intro he4 (geo_next H2.out.2 b4)); clear b4 he4))
      all_goals go_ret2
      all_goals exact ⟨v4, rfl, H4.out.1, H4.out.2⟩
    iterate 2
      · rw [if_neg (by decide)]
        go_enter Tryz.func28, Tryz.ntmps28
        go_wp2_with (first
          | (go_at_call 46; refine HS.out.mono ?_; rintro e w1 ⟨v1, rfl, he1, b1⟩; obtain rfl := he1.nil; have H1 := Lib.hid b1; clear he1 b1)
          | (go_at_call 47; refine (HN.out _ H1.out).mono ?_; rintro e w2 ⟨v2, rfl, he2, b2⟩; obtain rfl := he2.nil; have H2 := Lib.hid (geo_next H1.out b2); clear he2 b2)
          | (go_at_call 49; refine (new_err 8 i _).mono ?_; rintro e w3 ⟨v3, rfl, b3, he3⟩; have H3 := Lib.hid (And.intro he3 (geo_next H2.out b3)); clear b3 he3)
          | (go_at_call 48; refine (in_err _ _ _ _ H3.out.1).mono ?_; rintro e w4 ⟨v4, rfl, b4, he4⟩; have H4 := Lib.hid (And.intro he4 (geo_next H3.out.2 b4)); clear b4 he4))
        all_goals go_ret2
        all_goals exact ⟨v4, rfl, H4.out.1, H4.out.2⟩
    · rw [if_pos rfl]
      go_enter Tryz.func28, Tryz.ntmps28
      go_wp2_with (first
        | (go_at_call 46; refine HS.out.mono ?_; rintro e w1 ⟨v1, rfl, he1, b1⟩; obtain rfl := he1.nil; have H1 := Lib.hid b1; clear he1 b1)
        | (go_at_call 47; refine (HN.out _ H1.out).mono ?_; rintro e w2 ⟨v2, rfl, he2, b2⟩; obtain rfl := he2.nil; have H2 := Lib.hid (geo_next H1.out b2); clear he2 b2))
      all_goals go_ret2
      all_goals exact ⟨.nilIface, rfl, errNil _, H2.out⟩
  · have eE : ptE H L W a i v = shpE H L W a := by rw [ptE, if_neg q]
    rw [eE, if_neg q]
    clear h eE hl hge
    generalize shpE H L W a = x at *
    generalize namE H L W v = y at *
    generalize shpS H L W a = ps at *
    generalize shpW H L W a = pw at *
    go_enter Tryz.func28, Tryz.ntmps28
    go_wp2_with (first
      | (go_at_call 46; refine HS.out.mono ?_; rintro e w1 ⟨v1, rfl, he1, b1⟩; obtain ⟨tv, vv, rfl⟩ := he1.iface q; have H1 := Lib.hid (And.intro he1 b1); clear he1 b1)
      | (go_at_call 47; refine (HN.out _ H1.out.2).mono ?_; rintro e w2 ⟨v2, rfl, he2, b2⟩; have H2 := Lib.hid (And.intro (H1.out.1.below b2) (geo_next H1.out.2 b2)); clear he2 b2)
      | (go_at_call 48; refine (in_err _ _ _ _ H2.out.1).mono ?_; rintro e w4 ⟨v4, rfl, b4, he4⟩; have H4 := Lib.hid (And.intro he4 (geo_next H2.out.2 b4)); clear b4 he4))
    all_goals go_ret2
    all_goals exact ⟨v4, rfl, H4.out.1, H4.out.2⟩
set_option maxRecDepth 100000 in
set_option maxHeartbeats 4000000 in
theorem fword_is (h : St B G w s H L W) (a i v : Int) : Calls Tryz.prog 30 #[.pointer (some ⟨s, 0, none⟩), .int .i64 a, .int .i64 i, .int .i64 v] w fun e w' => ∃ r, e = .returned (.tuple #[.int .i64 (if swE H L W a i v = 0 then a + 1 + shpS H L W a + i else 0), r]) ∧ ErrIs w' (swE H L W a i v) r ∧ Below w.heap.size w w' := by
  have HS := Lib.hid (fshape_is h a)
  have hl := h.len
  have hge := h.ge
  by_cases q : shpE H L W a = 0
  · obtain ⟨n, hn, h1, h2, h3, h4, h5, h6⟩ := shp_at (by omega) q
    have hb : 0 ≤ a ∧ a ≤ 816 := by omega
    have hcase : ((v < 0 ∧ swE H L W a i v = 1) ∨ (0 ≤ v ∧ 4294967296 ≤ v ∧ swE H L W a i v = 1)) ∨ (¬ v < 0 ∧ ¬ 4294967296 ≤ v ∧ ((i < 0 ∧ swE H L W a i v = 8) ∨ (0 ≤ i ∧ shpW H L W a ≤ i ∧ swE H L W a i v = 8) ∨ (¬ i < 0 ∧ ¬ shpW H L W a ≤ i ∧ swE H L W a i v = 0))) := by
      by_cases v0 : v < 0
      · exact .inl (.inl ⟨v0, by rw [swE, if_pos q, if_neg (fun z : hbNum v = true => absurd (of_decide_eq_true z) (by omega))]⟩)
      · by_cases v1 : 4294967296 ≤ v
        · exact .inl (.inr ⟨by omega, v1, by rw [swE, if_pos q, if_neg (fun z : hbNum v = true => absurd (of_decide_eq_true z) (by omega))]⟩)
        · have o : hbNum v = true := decide_eq_true (by omega)
          refine .inr ⟨v0, v1, ?_⟩
          by_cases c0 : i < 0
          · exact .inl ⟨c0, by rw [swE, if_pos q, if_pos o, if_pos (.inl c0)]⟩
          · by_cases c1 : shpW H L W a ≤ i
            · exact .inr (.inl ⟨by omega, c1, by rw [swE, if_pos q, if_pos o, if_pos (.inr c1)]⟩)
            · exact .inr (.inr ⟨c0, c1, by rw [swE, if_pos q, if_pos o, if_neg (by omega)]⟩)
    rw [q] at HS
    clear h q hn h1 h6 hl hge
    generalize swE H L W a i v = x at *
    generalize shpS H L W a = ps at *
    generalize shpW H L W a = pw at *
    rcases hcase with (⟨c0, rfl⟩ | ⟨c0, c1, rfl⟩) | ⟨v0, v1, ⟨c0, rfl⟩ | ⟨c0, c1, rfl⟩ | ⟨c0, c1, rfl⟩⟩
    iterate 2
      · rw [if_neg (by decide)]
        go_enter Tryz.func30, Tryz.ntmps30
        go_wp2_with (first
          | (go_at_call 46; refine HS.out.mono ?_; rintro e w1 ⟨v1, rfl, he1, b1⟩; obtain rfl := he1.nil; have H1 := Lib.hid b1; clear he1 b1)
          | (go_at_call 49; refine (new_err 1 v _).mono ?_; rintro e w3 ⟨v3, rfl, b3, he3⟩; have H3 := Lib.hid (And.intro he3 (geo_next H1.out b3)); clear b3 he3)
          | (go_at_call 48; refine (in_err _ _ _ _ H3.out.1).mono ?_; rintro e w4 ⟨v4, rfl, b4, he4⟩; have H4 := Lib.hid (And.intro he4 (geo_next H3.out.2 b4)); clear b4 he4))
        all_goals go_ret2
        all_goals exact ⟨v4, rfl, H4.out.1, H4.out.2⟩
    iterate 2
      · rw [if_neg (by decide)]
        go_enter Tryz.func30, Tryz.ntmps30
        go_wp2_with (first
          | (go_at_call 46; refine HS.out.mono ?_; rintro e w1 ⟨v1, rfl, he1, b1⟩; obtain rfl := he1.nil; have H1 := Lib.hid b1; clear he1 b1)
          | (go_at_call 49; refine (new_err 8 i _).mono ?_; rintro e w3 ⟨v3, rfl, b3, he3⟩; have H3 := Lib.hid (And.intro he3 (geo_next H1.out b3)); clear b3 he3)
          | (go_at_call 48; refine (in_err _ _ _ _ H3.out.1).mono ?_; rintro e w4 ⟨v4, rfl, b4, he4⟩; have H4 := Lib.hid (And.intro he4 (geo_next H3.out.2 b4)); clear b4 he4))
        all_goals go_ret2
        all_goals exact ⟨v4, rfl, H4.out.1, H4.out.2⟩
    · rw [if_pos rfl]
      go_enter Tryz.func30, Tryz.ntmps30
      go_wp2_with (first
        | (go_at_call 46; refine HS.out.mono ?_; rintro e w1 ⟨v1, rfl, he1, b1⟩; obtain rfl := he1.nil; have H1 := Lib.hid b1; clear he1 b1))
      all_goals go_ret2
      all_goals exact ⟨.nilIface, rfl, errNil _, H1.out⟩
  · have eE : swE H L W a i v = shpE H L W a := by rw [swE, if_neg q]
    rw [eE, if_neg q]
    clear h eE hl hge
    generalize shpE H L W a = x at *
    generalize shpS H L W a = ps at *
    generalize shpW H L W a = pw at *
    go_enter Tryz.func30, Tryz.ntmps30
    go_wp2_with (first
      | (go_at_call 46; refine HS.out.mono ?_; rintro e w1 ⟨v1, rfl, he1, b1⟩; obtain ⟨tv, vv, rfl⟩ := he1.iface q; have H1 := Lib.hid (And.intro he1 b1); clear he1 b1)
      | (go_at_call 48; refine (in_err _ _ _ _ H1.out.1).mono ?_; rintro e w4 ⟨v4, rfl, b4, he4⟩; have H4 := Lib.hid (And.intro he4 (geo_next H1.out.2 b4)); clear b4 he4))
    all_goals go_ret2
    all_goals exact ⟨v4, rfl, H4.out.1, H4.out.2⟩
set_option maxRecDepth 100000 in
set_option maxHeartbeats 2000000 in
theorem fwrite_is (h : St B G w s H L W) (c v x : Int) (r : Value) (he : ErrIs w x r) : Calls Tryz.prog 29 #[.pointer (some ⟨s, 0, none⟩), .int .i64 c, .int .i64 v, r] w fun e w' => e = .returned (.int .i64 x) ∧ St B G w' s H L (if x = 0 then setW W (16 + 2 * H) c v else W) ∧ Below B w w' ∧ KeptG G w w' := by
  by_cases q : x = 0
  · subst q
    obtain rfl := he.nil
    rw [if_pos rfl]
    have HS := Lib.hid (st_set h c v)
    clear h he
    generalize setW W (16 + 2 * H) c v = V at *
    generalize setB (16 + 2 * H) c v = t at *
    go_enter Tryz.func29, Tryz.ntmps29
    go_wp2_with (first
      | (go_at_call 35; refine HS.out.mono ?_; rintro e w1 ⟨rfl, h1, b1, k1⟩; have H1 := Lib.hid (And.intro h1 (And.intro b1 k1)); clear h1 b1 k1)
      | (go_at_call 32; refine (errno_err 0 _ _ (errNil _) H1.out.1.ty.1).mono ?_; rintro e w2 ⟨rfl, b2⟩; have H2 := Lib.hid (And.intro (H1.out.1.below b2) (And.intro (H1.out.2.1.trans (b2.mono H1.out.1.le)) (H1.out.2.2.trans (H1.out.1.keptG b2)))); clear b2))
    go_ret
    exact ⟨rfl, H2.out⟩
  · rw [if_neg q]
    obtain ⟨tv, vv, rfl⟩ := he.iface q
    have HE := Lib.hid (errno_err x _ w he h.ty.1)
    have HH := Lib.hid (fun u (y : Below w.heap.size w u) => (show St B G u s H L W ∧ Below B w u ∧ KeptG G w u from ⟨h.below y, y.mono h.le, h.keptG y⟩))
    clear h he
    go_enter Tryz.func29, Tryz.ntmps29
    go_wp2_with (first
      | (go_at_call 32; refine HE.out.mono ?_; rintro e w2 ⟨rfl, b2⟩; have H2 := Lib.hid (HH.out _ b2); clear b2))
    go_ret
    exact ⟨rfl, H2.out⟩
set_option maxRecDepth 100000 in
set_option maxHeartbeats 4000000 in
theorem fcurrent_is (h : St B G w s H L W) (c x : Int) (r : Value) (he : ErrIs w x r) (m : Nat) (hm : x = 0 → c = (m : Int) ∧ m < 16 + 2 * H) :
    Calls Tryz.prog 31 #[.pointer (some ⟨s, 0, none⟩), .int .i64 c, r] w fun e w' => ∃ v, e = .returned (.tuple #[.int .i64 (if x = 0 then celV H L W m else 0), v]) ∧ ErrIs w' (if x = 0 then celE H L W m else x) v ∧ St B G w' s H L (if x = 0 then celW H L W m else W) ∧ Below B w w' ∧ KeptG G w w' := by
  by_cases q : x = 0
  · subst q
    obtain rfl := he.nil
    have hm0 := hm rfl
    clear hm
    obtain ⟨hc, hm⟩ := hm0
    rw [if_pos rfl, if_pos rfl, if_pos rfl]
    have hl := h.len
    have hge := h.ge
    have hnum := h.num m
    have HG := Lib.hid (st_get h c)
    rw [show wkC W (16 + 2 * H) c = W.getD m 0 by rw [wkC, if_pos (by omega), hc, Int.toNat_natCast]] at HG
    have HF := Lib.hid (fun u (y : Below w.heap.size w u) => fFollow_is (h.below y) (W.getD m 0))
    have HK := Lib.hid (fun u (y : Below w.heap.size w u) => (show Below B w u ∧ KeptG G w u from ⟨y.mono h.le, h.keptG y⟩))
    have HSt := Lib.hid (fun u V (y : St B G u s H L V) => st_set y c (folV H L W (W.getD m 0)))
    have hcN : 0 ≤ c ∧ c < ((16 + 2 * H : Nat) : Int) := by omega
    have hvr := fol_v (l := (L : Int)) (show (W.length : Int) = 16 + 2 * (H : Int) by omega) (show NumC W from fun i => h.num i) (W.getD m 0) hnum.1 hnum.2
    by_cases e0 : celE H L W m = 0
    · have eW : setW (folW H L W (W.getD m 0)) (16 + 2 * H) c (folV H L W (W.getD m 0)) = celW H L W m := by
        rw [setW_yes hcN hvr, celW, if_pos e0, hc, Int.toNat_natCast, celV]
      have HW := Lib.hid eW
      rw [e0]
      rw [show folE H L W (W.getD m 0) = 0 from e0] at HF
      clear h he hl hge hnum hvr e0 eW hc hm hcN
      rw [show celV H L W m = folV H L W (W.getD m 0) from rfl]
      generalize folV H L W (W.getD m 0) = fv at *
      generalize folW H L W (W.getD m 0) = fw at *
      generalize celW H L W m = cw at *
      generalize W.getD m 0 = z at *
      generalize setB (16 + 2 * H) c fv = t at *
      go_enter Tryz.func31, Tryz.ntmps31
      go_wp2_with (first
        | (go_at_call 33; refine HG.out.mono ?_; rintro e w1 ⟨rfl, b1⟩; have H1 := Lib.hid b1; clear b1)
        | (go_at_call 50; refine (HF.out _ H1.out).mono ?_; rintro e w2 ⟨rfl, h2, b2, k2⟩; have H2 := Lib.hid (And.intro h2 (And.intro ((HK.out _ H1.out).1.trans b2) ((HK.out _ H1.out).2.trans k2))); clear h2 b2 k2)
        | (go_at_call 35; refine (HSt.out _ _ H2.out.1).mono ?_; rintro e w3 ⟨rfl, h3, b3, k3⟩; rw [HW.out] at h3; have H3 := Lib.hid (And.intro h3 (And.intro (H2.out.2.1.trans b3) (H2.out.2.2.trans k3))); clear h3 b3 k3))
      all_goals go_ret2
      all_goals exact ⟨.nilIface, rfl, errNil _, H3.out⟩
    · have eE : folE H L W (W.getD m 0) ≠ 0 := e0
      have eV : celV H L W m = 0 := folV_no eE
      have eW : celW H L W m = W := if_neg e0
      rw [eV, eW]
      rw [folV_no eE, folW_no eE, show folE H L W (W.getD m 0) = celE H L W m from rfl] at HF
      clear h he hl hge hnum hvr eE eV eW hc hm HSt hcN
      generalize celE H L W m = ee at *
      generalize W.getD m 0 = z at *
      go_enter Tryz.func31, Tryz.ntmps31
      go_wp2_with (first
        | (go_at_call 33; refine HG.out.mono ?_; rintro e w1 ⟨rfl, b1⟩; have H1 := Lib.hid b1; clear b1)
        | (go_at_call 50; refine (HF.out _ H1.out).mono ?_; rintro e w2 ⟨rfl, h2, b2, k2⟩; have H2 := Lib.hid (And.intro h2 (And.intro ((HK.out _ H1.out).1.trans b2) ((HK.out _ H1.out).2.trans k2))); clear h2 b2 k2)
        | (go_at_call 49; refine (new_err ee c _).mono ?_; rintro e w3 ⟨v3, rfl, b3, he3⟩; have H3 := Lib.hid (And.intro he3 b3); clear b3 he3)
        | (go_at_call 48; refine (in_err _ _ _ _ H3.out.1).mono ?_; rintro e w4 ⟨v4, rfl, b4, he4⟩; have H4 := Lib.hid (And.intro he4 (geo_next H3.out.2 b4)); clear b4 he4))
      all_goals go_ret2
      all_goals exact ⟨v4, rfl, H4.out.1, H2.out.1.below H4.out.2, H2.out.2.1.trans (H4.out.2.mono H2.out.1.le), H2.out.2.2.trans (H2.out.1.keptG H4.out.2)⟩
  · rw [if_neg q, if_neg q, if_neg q]
    obtain ⟨tv, vv, rfl⟩ := he.iface q
    have HH := Lib.hid (show St B G w s H L W ∧ Below B w w ∧ KeptG G w w from ⟨h, Below.refl _ _, h.keptG (Below.refl _ _)⟩)
    have HE := Lib.hid he
    clear h he hm
    go_enter Tryz.func31, Tryz.ntmps31
    go_wp2_with fail
    go_ret2
    exact ⟨_, rfl, HE.out, HH.out⟩
end
end Go.Proofs.YtjengjmhjccnoaaGreatDoor
