/- Package field: Root, SetRoot, Load, Put, Word, SetWord, Shape leave what the document's leave. -/
import Derived.Test.YtjengjmhjccnoaaGreatDoorZFieldOf
set_option linter.unusedVariables false
set_option linter.unusedSimpArgs false
namespace Go.Proofs.YtjengjmhjccnoaaGreatDoor
open Go.RowKit Sec
open Go.Proofs.YtjengjmhjccnoaaGreatDoor.Bk

section
variable {B : Nat} {G : Nat → Prop} {w : World} {s H L : Nat} {W : List Int}
/-- A cell's number, where there is one. -/
theorem cell_at {c : Int} (h0 : 0 ≤ c) : ∃ m : Nat, c = (m : Int) ∧ c.toNat = m := ⟨c.toNat, by omega, rfl⟩
theorem obj_num {H : Nat} {l : Int} {W : List Int} {a : Int} (hl : W.length = 16 + 2 * H) (hH : H ≤ 400) (o : a = 0 ∨ objB H l W a = true) : 0 ≤ a ∧ a < 4294967296 := by
  rcases o with rfl | o
  · exact ⟨by decide, by decide⟩
  · obtain ⟨n, rfl, h1, h2, _⟩ := objB_at (by omega) o
    omega
set_option maxRecDepth 100000 in
set_option maxHeartbeats 2000000 in
theorem fRoot_is (h : St B G w s H L W) (i : Int) : Calls Tryz.prog 14 #[.pointer (some ⟨s, 0, none⟩), .int .i64 i] w fun e w' => e = .returned (.tuple #[.int .i64 (rootV H L W i), .int .i64 (rootE H L W i)]) ∧ St B G w' s H L (rootW H L W i) ∧ Below B w w' ∧ KeptG G w w' := by
  have HR := Lib.hid (froot_is h i 0)
  have HK := Lib.hid (fun u (y : Below w.heap.size w u) => (show Below B w u ∧ KeptG G w u from ⟨y.mono h.le, h.keptG y⟩))
  have hge := h.ge
  have hcase : (srE H L W i 0 = 8 ∧ rootE H L W i = 8 ∧ rootV H L W i = 0 ∧ rootW H L W i = W) ∨ (srE H L W i 0 = 0 ∧ 0 ≤ i ∧ i < 8 ∧ rootE H L W i = celE H L W (8 + i.toNat) ∧ rootV H L W i = celV H L W (8 + i.toNat) ∧ rootW H L W i = celW H L W (8 + i.toNat)) := by
    by_cases q : i < 0 ∨ 8 ≤ i
    · exact .inl ⟨by rw [srE, if_pos q], by rw [rootE, if_pos q], by rw [rootV, if_pos q], by rw [rootW, if_pos q]⟩
    · exact .inr ⟨by rw [srE, if_neg q, if_pos (.inl rfl)], by omega, by omega, by rw [rootE, if_neg q], by rw [rootV, if_neg q], by rw [rootW, if_neg q]⟩
  rcases hcase with ⟨e0, e1, e2, e3⟩ | ⟨e0, i0, i8, e1, e2, e3⟩
  · rw [e0, if_neg (by decide)] at HR
    rw [e1, e2, e3]
    have HC := Lib.hid (fun u c r (y : Below w.heap.size w u) (he : ErrIs u 8 r) => by
      have := fcurrent_is (h.below y) c 8 r he 0 (fun q => absurd q (by decide))
      rwa [if_neg (by decide), if_neg (by decide), if_neg (by decide)] at this)
    clear h e0 e1 e2 e3 hge
    go_enter Tryz.func14, Tryz.ntmps14
    go_wp2_with (first
      | (go_at_call 34; refine HR.out.mono ?_; rintro e w1 ⟨v1, rfl, he1, b1⟩; have H1 := Lib.hid (And.intro he1 b1); clear he1 b1)
      | (go_at_call 31; refine (HC.out _ _ _ H1.out.2 H1.out.1).mono ?_; rintro e w2 ⟨v2, rfl, he2, h2, b2, k2⟩; have H2 := Lib.hid (And.intro he2 (And.intro h2 (And.intro ((HK.out _ H1.out.2).1.trans b2) ((HK.out _ H1.out.2).2.trans k2)))); clear he2 h2 b2 k2)
      | (go_at_call 32; refine (errno_err 8 _ _ H2.out.1 H2.out.2.1.ty.1).mono ?_; rintro e w3 ⟨rfl, b3⟩; have H3 := Lib.hid (And.intro (H2.out.2.1.below b3) (And.intro (H2.out.2.2.1.trans (b3.mono H2.out.2.1.le)) (H2.out.2.2.2.trans (H2.out.2.1.keptG b3)))); clear b3))
    go_ret2
    exact ⟨rfl, H3.out⟩
  · rw [e0, if_pos rfl] at HR
    rw [e1, e2, e3]
    have hm : (0 : Int) = 0 → (8 : Int) + i = ((8 + i.toNat : Nat) : Int) ∧ 8 + i.toNat < 16 + 2 * H := fun _ => by omega
    have HC := Lib.hid (fun u r (y : Below w.heap.size w u) (he : ErrIs u 0 r) => by
      have := fcurrent_is (h.below y) (8 + i) 0 r he (8 + i.toNat) hm
      rwa [if_pos rfl, if_pos rfl, if_pos rfl] at this)
    clear h e0 e1 e2 e3 hm hge
    generalize 8 + i.toNat = m at *
    generalize celW H L W m = V at *
    generalize celE H L W m = x at *
    generalize celV H L W m = p at *
    go_enter Tryz.func14, Tryz.ntmps14
    go_wp2_with (first
      | (go_at_call 34; refine HR.out.mono ?_; rintro e w1 ⟨v1, rfl, he1, b1⟩; have H1 := Lib.hid (And.intro he1 b1); clear he1 b1)
      | (go_at_call 31; refine (HC.out _ _ H1.out.2 H1.out.1).mono ?_; rintro e w2 ⟨v2, rfl, he2, h2, b2, k2⟩; have H2 := Lib.hid (And.intro he2 (And.intro h2 (And.intro ((HK.out _ H1.out.2).1.trans b2) ((HK.out _ H1.out.2).2.trans k2)))); clear he2 h2 b2 k2)
      | (go_at_call 32; refine (errno_err x _ _ H2.out.1 H2.out.2.1.ty.1).mono ?_; rintro e w3 ⟨rfl, b3⟩; have H3 := Lib.hid (And.intro (H2.out.2.1.below b3) (And.intro (H2.out.2.2.1.trans (b3.mono H2.out.2.1.le)) (H2.out.2.2.2.trans (H2.out.2.1.keptG b3)))); clear b3))
    go_ret2
    exact ⟨rfl, H3.out⟩
set_option maxRecDepth 100000 in
set_option maxHeartbeats 2000000 in
theorem fLoad_is (h : St B G w s H L W) (a i : Int) : Calls Tryz.prog 11 #[.pointer (some ⟨s, 0, none⟩), .int .i64 a, .int .i64 i] w fun e w' => e = .returned (.tuple #[.int .i64 (loadV H L W a i), .int .i64 (loadE H L W a i)]) ∧ St B G w' s H L (loadW H L W a i) ∧ Below B w w' ∧ KeptG G w w' := by
  have HR := Lib.hid (fslot_is h a i 0)
  have HK := Lib.hid (fun u (y : Below w.heap.size w u) => (show Below B w u ∧ KeptG G w u from ⟨y.mono h.le, h.keptG y⟩))
  have hge := h.ge
  have hl := h.len
  have hcase : (ptE H L W a i 0 ≠ 0 ∧ loadE H L W a i = ptE H L W a i 0 ∧ loadV H L W a i = 0 ∧ loadW H L W a i = W) ∨ (ptE H L W a i 0 = 0 ∧ (∃ m : Nat, a + 1 + i = (m : Int) ∧ m < 16 + 2 * H) ∧ loadE H L W a i = celE H L W (a + 1 + i).toNat ∧ loadV H L W a i = celV H L W (a + 1 + i).toNat ∧ loadW H L W a i = celW H L W (a + 1 + i).toNat) := by
    by_cases q : shpE H L W a = 0
    · obtain ⟨n, hn, h1, h2, h3, h4, h5, h6⟩ := shp_at (by omega) q
      by_cases r : i < 0 ∨ shpS H L W a ≤ i
      · have e : ptE H L W a i 0 = 8 := by rw [ptE, if_pos q, if_pos (.inl rfl), if_pos r]
        exact .inl ⟨by rw [e]; decide, by rw [e, loadE, if_pos q, if_pos r], by rw [loadV, if_pos q, if_pos r], by rw [loadW, if_pos q, if_pos r]⟩
      · refine .inr ⟨by rw [ptE, if_pos q, if_pos (.inl rfl), if_neg r], ⟨(a + 1 + i).toNat, by omega, by omega⟩, by rw [loadE, if_pos q, if_neg r], by rw [loadV, if_pos q, if_neg r], by rw [loadW, if_pos q, if_neg r]⟩
    · have e : ptE H L W a i 0 = shpE H L W a := by rw [ptE, if_neg q]
      exact .inl ⟨by rw [e]; exact q, by rw [e, loadE, if_neg q], by rw [loadV, if_neg q], by rw [loadW, if_neg q]⟩
  rcases hcase with ⟨e0, e1, e2, e3⟩ | ⟨e0, ⟨m, hm0, hm1⟩, e1, e2, e3⟩
  · rw [if_neg e0] at HR
    rw [e1, e2, e3]
    have HC := Lib.hid (fun u c r (y : Below w.heap.size w u) (he : ErrIs u (ptE H L W a i 0) r) => by
      have := fcurrent_is (h.below y) c (ptE H L W a i 0) r he 0 (fun q => absurd q e0)
      rwa [if_neg e0, if_neg e0, if_neg e0] at this)
    clear h e0 e1 e2 e3 hl hge
    generalize ptE H L W a i 0 = x at *
    go_enter Tryz.func11, Tryz.ntmps11
    go_wp2_with (first
      | (go_at_call 28; refine HR.out.mono ?_; rintro e w1 ⟨v1, rfl, he1, b1⟩; have H1 := Lib.hid (And.intro he1 b1); clear he1 b1)
      | (go_at_call 31; refine (HC.out _ _ _ H1.out.2 H1.out.1).mono ?_; rintro e w2 ⟨v2, rfl, he2, h2, b2, k2⟩; have H2 := Lib.hid (And.intro he2 (And.intro h2 (And.intro ((HK.out _ H1.out.2).1.trans b2) ((HK.out _ H1.out.2).2.trans k2)))); clear he2 h2 b2 k2)
      | (go_at_call 32; refine (errno_err x _ _ H2.out.1 H2.out.2.1.ty.1).mono ?_; rintro e w3 ⟨rfl, b3⟩; have H3 := Lib.hid (And.intro (H2.out.2.1.below b3) (And.intro (H2.out.2.2.1.trans (b3.mono H2.out.2.1.le)) (H2.out.2.2.2.trans (H2.out.2.1.keptG b3)))); clear b3))
    go_ret2
    exact ⟨rfl, H3.out⟩
  · rw [e0, if_pos rfl] at HR
    rw [e1, e2, e3, hm0, Int.toNat_natCast]
    rw [hm0] at HR
    have hm : (0 : Int) = 0 → (m : Int) = (m : Int) ∧ m < 16 + 2 * H := fun _ => ⟨rfl, hm1⟩
    have HC := Lib.hid (fun u r (y : Below w.heap.size w u) (he : ErrIs u 0 r) => by
      have := fcurrent_is (h.below y) (m : Int) 0 r he m hm
      rwa [if_pos rfl, if_pos rfl, if_pos rfl] at this)
    clear h e0 e1 e2 e3 hm hm0 hm1 hl hge
    generalize celW H L W m = V at *
    generalize celE H L W m = x at *
    generalize celV H L W m = p at *
    go_enter Tryz.func11, Tryz.ntmps11
    go_wp2_with (first
      | (go_at_call 28; refine HR.out.mono ?_; rintro e w1 ⟨v1, rfl, he1, b1⟩; have H1 := Lib.hid (And.intro he1 b1); clear he1 b1)
      | (go_at_call 31; refine (HC.out _ _ H1.out.2 H1.out.1).mono ?_; rintro e w2 ⟨v2, rfl, he2, h2, b2, k2⟩; have H2 := Lib.hid (And.intro he2 (And.intro h2 (And.intro ((HK.out _ H1.out.2).1.trans b2) ((HK.out _ H1.out.2).2.trans k2)))); clear he2 h2 b2 k2)
      | (go_at_call 32; refine (errno_err x _ _ H2.out.1 H2.out.2.1.ty.1).mono ?_; rintro e w3 ⟨rfl, b3⟩; have H3 := Lib.hid (And.intro (H2.out.2.1.below b3) (And.intro (H2.out.2.2.1.trans (b3.mono H2.out.2.1.le)) (H2.out.2.2.2.trans (H2.out.2.1.keptG b3)))); clear b3))
    go_ret2
    exact ⟨rfl, H3.out⟩
set_option maxRecDepth 100000 in
set_option maxHeartbeats 2000000 in
theorem fSetRoot_is (h : St B G w s H L W) (i a : Int) : Calls Tryz.prog 13 #[.pointer (some ⟨s, 0, none⟩), .int .i64 i, .int .i64 a] w fun e w' => e = .returned (.int .i64 (srE H L W i a)) ∧ St B G w' s H L (srW H L W i a) ∧ Below B w w' ∧ KeptG G w w' := by
  have HR := Lib.hid (froot_is h i a)
  have HK := Lib.hid (fun u (y : Below w.heap.size w u) => (show Below B w u ∧ KeptG G w u from ⟨y.mono h.le, h.keptG y⟩))
  have hW : srW H L W i a = if srE H L W i a = 0 then setW W (16 + 2 * H) (if srE H L W i a = 0 then 8 + i else 0) a else W := by
    by_cases q : srE H L W i a = 0
    · rw [srW, if_pos q, if_pos q, if_pos q, setW_yes]
      · rw [srE] at q
        split at q
        · exact absurd q (by decide)
        · omega
      · refine obj_num h.len h.ge.2.1 (l := (L : Int)) ?_
        rw [srE] at q
        split at q
        · exact absurd q (by decide)
        · split at q
          · assumption
          · exact absurd q (by decide)
    · rw [srW, if_neg q, if_neg q]
  have HC := Lib.hid (fun u r (y : Below w.heap.size w u) (he : ErrIs u (srE H L W i a) r) => fwrite_is (h.below y) (if srE H L W i a = 0 then 8 + i else 0) a (srE H L W i a) r he)
  rw [← hW] at HC
  clear h hW
  generalize srW H L W i a = V at *
  generalize srE H L W i a = x at *
  generalize (if x = 0 then 8 + i else 0) = c at *
  go_enter Tryz.func13, Tryz.ntmps13
  go_wp2_with (first
    | (go_at_call 34; refine HR.out.mono ?_; rintro e w1 ⟨v1, rfl, he1, b1⟩; have H1 := Lib.hid (And.intro he1 b1); clear he1 b1)
    | (go_at_call 29; refine (HC.out _ _ H1.out.2 H1.out.1).mono ?_; rintro e w2 ⟨rfl, h2, b2, k2⟩; have H2 := Lib.hid (And.intro h2 (And.intro ((HK.out _ H1.out.2).1.trans b2) ((HK.out _ H1.out.2).2.trans k2))); clear h2 b2 k2))
  go_ret
  exact ⟨rfl, H2.out⟩
set_option maxRecDepth 100000 in
set_option maxHeartbeats 2000000 in
theorem fPut_is (h : St B G w s H L W) (a i v : Int) : Calls Tryz.prog 9 #[.pointer (some ⟨s, 0, none⟩), .int .i64 a, .int .i64 i, .int .i64 v] w fun e w' => e = .returned (.int .i64 (ptE H L W a i v)) ∧ St B G w' s H L (ptW H L W a i v) ∧ Below B w w' ∧ KeptG G w w' := by
  have HR := Lib.hid (fslot_is h a i v)
  have HK := Lib.hid (fun u (y : Below w.heap.size w u) => (show Below B w u ∧ KeptG G w u from ⟨y.mono h.le, h.keptG y⟩))
  have hW : ptW H L W a i v = if ptE H L W a i v = 0 then setW W (16 + 2 * H) (if ptE H L W a i v = 0 then a + 1 + i else 0) v else W := by
    by_cases q : ptE H L W a i v = 0
    · rw [ptW, if_pos q, if_pos q, if_pos q]
      have hl := h.len
      rw [ptE] at q
      by_cases q1 : shpE H L W a = 0
      · rw [if_pos q1] at q
        obtain ⟨n, hn, h1, h2, h3, h4, h5, h6⟩ := shp_at (by omega) q1
        by_cases o : v = 0 ∨ objB H L W v = true
        · rw [if_pos o] at q
          by_cases r : i < 0 ∨ shpS H L W a ≤ i
          · rw [if_pos r] at q
            exact absurd q (by decide)
          · rw [setW_yes (by omega) (obj_num h.len h.ge.2.1 o)]
        · rw [if_neg o] at q
          exact absurd q (by decide)
      · rw [if_neg q1] at q
        exact absurd q q1
    · rw [ptW, if_neg q, if_neg q]
  have HC := Lib.hid (fun u r (y : Below w.heap.size w u) (he : ErrIs u (ptE H L W a i v) r) => fwrite_is (h.below y) (if ptE H L W a i v = 0 then a + 1 + i else 0) v (ptE H L W a i v) r he)
  rw [← hW] at HC
  clear h hW
  generalize ptW H L W a i v = V at *
  generalize ptE H L W a i v = x at *
  generalize (if x = 0 then a + 1 + i else 0) = c at *
  go_enter Tryz.func9, Tryz.ntmps9
  go_wp2_with (first
    | (go_at_call 28; refine HR.out.mono ?_; rintro e w1 ⟨v1, rfl, he1, b1⟩; have H1 := Lib.hid (And.intro he1 b1); clear he1 b1)
    | (go_at_call 29; refine (HC.out _ _ H1.out.2 H1.out.1).mono ?_; rintro e w2 ⟨rfl, h2, b2, k2⟩; have H2 := Lib.hid (And.intro h2 (And.intro ((HK.out _ H1.out.2).1.trans b2) ((HK.out _ H1.out.2).2.trans k2))); clear h2 b2 k2))
  go_ret
  exact ⟨rfl, H2.out⟩
set_option maxRecDepth 100000 in
set_option maxHeartbeats 2000000 in
theorem fSetWord_is (h : St B G w s H L W) (a i v : Int) : Calls Tryz.prog 10 #[.pointer (some ⟨s, 0, none⟩), .int .i64 a, .int .i64 i, .int .i64 v] w fun e w' => e = .returned (.int .i64 (swE H L W a i v)) ∧ St B G w' s H L (swW H L W a i v) ∧ Below B w w' ∧ KeptG G w w' := by
  have HR := Lib.hid (fword_is h a i v)
  have HK := Lib.hid (fun u (y : Below w.heap.size w u) => (show Below B w u ∧ KeptG G w u from ⟨y.mono h.le, h.keptG y⟩))
  have hW : swW H L W a i v = if swE H L W a i v = 0 then setW W (16 + 2 * H) (if swE H L W a i v = 0 then a + 1 + shpS H L W a + i else 0) v else W := by
    by_cases q : swE H L W a i v = 0
    · rw [swW, if_pos q, if_pos q, if_pos q]
      have hl := h.len
      rw [swE] at q
      by_cases q1 : shpE H L W a = 0
      · rw [if_pos q1] at q
        obtain ⟨n, hn, h1, h2, h3, h4, h5, h6⟩ := shp_at (by omega) q1
        by_cases o : hbNum v = true
        · rw [if_pos o] at q
          have ov := of_decide_eq_true o
          by_cases r : i < 0 ∨ shpW H L W a ≤ i
          · rw [if_pos r] at q
            exact absurd q (by decide)
          · rw [setW_yes (by omega) (by omega)]
        · rw [if_neg o] at q
          exact absurd q (by decide)
      · rw [if_neg q1] at q
        exact absurd q q1
    · rw [swW, if_neg q, if_neg q]
  have HC := Lib.hid (fun u r (y : Below w.heap.size w u) (he : ErrIs u (swE H L W a i v) r) => fwrite_is (h.below y) (if swE H L W a i v = 0 then a + 1 + shpS H L W a + i else 0) v (swE H L W a i v) r he)
  rw [← hW] at HC
  clear h hW
  generalize swW H L W a i v = V at *
  generalize swE H L W a i v = x at *
  generalize (if x = 0 then a + 1 + shpS H L W a + i else 0) = c at *
  go_enter Tryz.func10, Tryz.ntmps10
  go_wp2_with (first
    | (go_at_call 30; refine HR.out.mono ?_; rintro e w1 ⟨v1, rfl, he1, b1⟩; have H1 := Lib.hid (And.intro he1 b1); clear he1 b1)
    | (go_at_call 29; refine (HC.out _ _ H1.out.2 H1.out.1).mono ?_; rintro e w2 ⟨rfl, h2, b2, k2⟩; have H2 := Lib.hid (And.intro h2 (And.intro ((HK.out _ H1.out.2).1.trans b2) ((HK.out _ H1.out.2).2.trans k2))); clear h2 b2 k2))
  go_ret
  exact ⟨rfl, H2.out⟩
set_option maxRecDepth 100000 in
set_option maxHeartbeats 2000000 in
theorem fWord_is (h : St B G w s H L W) (a i : Int) : Calls Tryz.prog 12 #[.pointer (some ⟨s, 0, none⟩), .int .i64 a, .int .i64 i] w fun e w' => e = .returned (.tuple #[.int .i64 (wrdV H L W a i), .int .i64 (wrdE H L W a i)]) ∧ Below w.heap.size w w' := by
  have HR := Lib.hid (fword_is h a i 0)
  have eE : swE H L W a i 0 = wrdE H L W a i := by
    rw [swE, wrdE, if_pos (show hbNum 0 = true by decide)]
  rw [eE] at HR
  have hge := h.ge
  have hl := h.len
  have HG := Lib.hid (fun u c (y : Below w.heap.size w u) => st_get (h.below y) c)
  have HT := Lib.hid (fun u (y : Below w.heap.size w u) => (h.below y).ty.1)
  by_cases q : wrdE H L W a i = 0
  · have eV : wkC W (16 + 2 * H) (a + 1 + shpS H L W a + i) = wrdV H L W a i := by
      rw [wrdV, if_pos q, wkC, if_pos]
      rw [wrdE] at q
      by_cases q1 : shpE H L W a = 0
      · rw [if_pos q1] at q
        obtain ⟨n, hn, h1, h2, h3, h4, h5, h6⟩ := shp_at (by omega) q1
        by_cases r : i < 0 ∨ shpW H L W a ≤ i
        · rw [if_pos r] at q
          exact absurd q (by decide)
        · omega
      · rw [if_neg q1] at q
        exact absurd q q1
    have HV := Lib.hid eV
    rw [q]
    rw [q, if_pos rfl] at HR
    clear h eE q hge hl eV HT
    generalize a + 1 + shpS H L W a + i = c at *
    generalize wrdV H L W a i = v at *
    go_enter Tryz.func12, Tryz.ntmps12
    go_wp2_with (first
      | (go_at_call 30; refine HR.out.mono ?_; rintro e w1 ⟨v1, rfl, he1, b1⟩; obtain rfl := he1.nil; have H1 := Lib.hid b1; clear he1 b1)
      | (go_at_call 33; refine (HG.out _ _ H1.out).mono ?_; rintro e w2 ⟨rfl, b2⟩; rw [HV.out]; have H2 := Lib.hid (geo_next H1.out b2); clear b2))
    go_ret2
    exact ⟨rfl, H2.out⟩
  · rw [wrdV, if_neg q]
    rw [if_neg q] at HR
    clear h eE hge hl HG
    generalize wrdE H L W a i = x at *
    go_enter Tryz.func12, Tryz.ntmps12
    go_wp2_with (first
      | (go_at_call 30; refine HR.out.mono ?_; rintro e w1 ⟨v1, rfl, he1, b1⟩; have HE := Lib.hid he1; obtain ⟨tv, vv, rfl⟩ := he1.iface q; have H1 := Lib.hid (And.intro HE.out b1); clear he1 b1)
      | (go_at_call 32; refine (errno_err x _ _ H1.out.1 (HT.out _ H1.out.2)).mono ?_; rintro e w2 ⟨rfl, b2⟩; have H2 := Lib.hid (geo_next H1.out.2 b2); clear b2))
    go_ret2
    exact ⟨rfl, H2.out⟩
end
end Go.Proofs.YtjengjmhjccnoaaGreatDoor
