/- Plain facts for the laws of stage 14: roots, slots and words of objects that lie in the half in use; two objects of one shape of which one slot and one word are written (FieldKeeps). -/
import Derived.Test.YtjengjmhjccnoaaGreatDoorZAllocA
import Derived.Test.YtjengjmhjccnoaaGreatDoorZFollowMath
import Derived.Test.YtjengjmhjccnoaaGreatDoorZHeapB
set_option linter.unusedVariables false
set_option linter.unusedSimpArgs false
namespace Go.Proofs.YtjengjmhjccnoaaGreatDoor
open Go.RowKit Sec
open Go.Proofs.YtjengjmhjccnoaaGreatDoor.Bk

section
variable {h l : Int} {W : List Int}
theorem fol_here (ok : hOk h l W = true) {a : Int} (q : a = 0 ∨ inB h (hSp W) a = true) : folE h l W a = 0 ∧ folV h l W a = a ∧ folW h l W a = W := by
  have e0 : lk h l W a = (a, true) := by rw [lk, if_neg (by rw [ok]; decide), if_pos q]
  have eM : ¬ folM h l W a = true := fun z => by
    obtain ⟨_, _, q3, q4, _⟩ := folM_yes z
    rcases q with c | c
    · exact q3 c
    · rw [q4] at c
      exact absurd c (by decide)
  have eE : folE h l W a = 0 := by rw [folE, if_neg (by rw [ok]; decide), if_neg (by rw [e0]; simp), if_neg (fun z => eM z.1)]
  refine ⟨eE, ?_, if_neg (fun z => eM z.2)⟩
  rw [folV, if_pos eE, if_neg eM, e0]
theorem set_self (W : List Int) (k : Nat) : W.set k (W.getD k 0) = W := list_of_getD (by rw [List.length_set]) (fun i => by
  rw [getD_set]
  by_cases e : k = i ∧ i < W.length
  · rw [if_pos e, e.1]
  · rw [if_neg e])
theorem cel_here (ok : hOk h l W = true) {k : Nat} (q : W.getD k 0 = 0 ∨ inB h (hSp W) (W.getD k 0) = true) : celE h l W k = 0 ∧ celV h l W k = W.getD k 0 ∧ celW h l W k = W := by
  obtain ⟨e, v, w⟩ := fol_here ok q
  refine ⟨e, v, ?_⟩
  rw [celW, if_pos (show celE h l W k = 0 from e), w, show celV h l W k = W.getD k 0 from v, set_self]
theorem load_here (ok : hOk h l W = true) {a i : Int} (sh : shpE h l W a = 0) (h0 : 0 ≤ i) (h1 : i < shpS h l W a) (q : W.getD (a + 1 + i).toNat 0 = 0 ∨ inB h (hSp W) (W.getD (a + 1 + i).toNat 0) = true) :
    loadE h l W a i = 0 ∧ loadV h l W a i = W.getD (a + 1 + i).toNat 0 ∧ loadW h l W a i = W := by
  obtain ⟨e, v, w⟩ := cel_here ok q
  have n : ¬ (i < 0 ∨ shpS h l W a ≤ i) := by omega
  rw [loadE, loadV, loadW, if_pos sh, if_pos sh, if_pos sh, if_neg n, if_neg n, if_neg n]
  exact ⟨e, v, w⟩
theorem root_here (ok : hOk h l W = true) {i : Int} (h0 : 0 ≤ i) (h1 : i < 8) (q : W.getD (8 + i.toNat) 0 = 0 ∨ inB h (hSp W) (W.getD (8 + i.toNat) 0) = true) :
    rootE h l W i = 0 ∧ rootV h l W i = W.getD (8 + i.toNat) 0 ∧ rootW h l W i = W := by
  obtain ⟨e, v, w⟩ := cel_here ok q
  have n : ¬ (i < 0 ∨ 8 ≤ i) := by omega
  rw [rootE, rootV, rootW, if_neg n, if_neg n, if_neg n]
  exact ⟨e, v, w⟩
theorem word_here {a i : Int} (sh : shpE h l W a = 0) (h0 : 0 ≤ i) (h1 : i < shpW h l W a) : wrdE h l W a i = 0 ∧ wrdV h l W a i = W.getD (a + 1 + shpS h l W a + i).toNat 0 := by
  have e : wrdE h l W a i = 0 := by rw [wrdE, if_pos sh, if_neg (by omega)]
  exact ⟨e, by rw [wrdV, if_pos e]⟩
theorem obj_here (ok : hOk h l W = true) {a s x : Int} (hin : inB h (hSp W) a = true) (sh : shOk s x = true) (hd : W.getD a.toNat 0 = hdI s x) (fr : a + 1 + s + x ≤ hFr W) (h0 : 0 < a) :
    objB h l W a = true ∧ shpE h l W a = 0 ∧ shpS h l W a = s ∧ shpW h l W a = x := by
  obtain ⟨p1, p2, p3⟩ := hd_back sh
  obtain ⟨s0, s1, x0, x1⟩ := shOk_yes sh
  have o : objB h l W a = true := by
    rw [objB, ok, hin, hd, p1, p2, p3, decide_eq_true (show a < hFr W by omega), decide_eq_true fr]
    rfl
  have e : shpE h l W a = 0 := by rw [shpE, if_neg (by omega), if_pos o]
  exact ⟨o, e, by rw [shpS, if_pos e, hd, p2], by rw [shpW, if_pos e, hd, p3]⟩
end
/-- What FieldKeeps finds: two objects of one shape; one slot of the first names the second, one word of which was written. -/
structure Kp (H L : Nat) (s x : Int) (n k m : Nat) (v : Int) (V : List Int) : Prop where
  la : ∀ j : Nat, (j : Int) < s → loadE H L V 16 j = 0 ∧ loadV H L V 16 j = (if j = k then 16 + (n : Int) else 0) ∧ loadW H L V 16 j = V
  lb : ∀ j : Nat, (j : Int) < s → loadE H L V (16 + (n : Int)) j = 0 ∧ loadV H L V (16 + (n : Int)) j = 0 ∧ loadW H L V (16 + (n : Int)) j = V
  wa : ∀ j : Nat, (j : Int) < x → wrdE H L V 16 j = 0 ∧ wrdV H L V 16 j = 0
  wb : ∀ j : Nat, (j : Int) < x → wrdE H L V (16 + (n : Int)) j = 0 ∧ wrdV H L V (16 + (n : Int)) j = (if j = m then v else 0)
  no : loadE H L V 16 s = 8 ∧ loadW H L V 16 s = V ∧ wrdE H L V (16 + (n : Int)) (-1) = 8 ∧ ptE H L V 0 0 16 = 7 ∧ ptW H L V 0 0 16 = V ∧ swE H L V 16 x 1 = 8 ∧ swW H L V 16 x 1 = V
set_option maxHeartbeats 2000000 in
theorem keeps_data {H L : Nat} (hg : geOk H L = true) {s x v : Int} (sh : shOk s x = true) (s1 : 1 ≤ s) (x1 : 1 ≤ x) (hz : 2 + 2 * s + 2 * x ≤ (H : Int)) {n k m : Nat} (hn : 1 + s + x = (n : Int)) (hk : (k : Int) < s) (hm : (m : Int) < x) (v0 : 0 ≤ v) (v1 : v < 4294967296) :
    Mk H L (freshC H) s x 16 n ∧ Mk H L (newW H L (freshC H) s x) s x (16 + n) n ∧
    ptE H L (newW H L (newW H L (freshC H) s x) s x) 16 k (16 + (n : Int)) = 0 ∧
    swE H L (ptW H L (newW H L (newW H L (freshC H) s x) s x) 16 k (16 + (n : Int))) (16 + (n : Int)) m v = 0 ∧
    Kp H L s x n k m v (swW H L (ptW H L (newW H L (newW H L (freshC H) s x) s x) 16 k (16 + (n : Int))) (16 + (n : Int)) m v) := by
  obtain ⟨e0, e1, e2, e3⟩ := fresh_ctl H
  obtain ⟨s0, s15, x0, x30⟩ := shOk_yes sh
  have m1 : Mk H L (freshC H) s x 16 n := mk_of (by rw [freshC_len]; omega) (fresh_ok hg) sh e1 hn (by rw [e0]; omega)
  have hl1 : (newW H L (freshC H) s x).length = 16 + 2 * H := by rw [new_len, freshC_len]
  obtain ⟨c0, c1, c2, c3⟩ := m1.ctl
  have hd1 := m1.hd
  have z1 := fun i (h0 : 16 < i) (h1 : i < 16 + n) => m1.zero h0 h1
  have ok1 := m1.ok'
  generalize newW H L (freshC H) s x = W1 at *
  have m2 : Mk H L W1 s x (16 + n) n := mk_of (by rw [hl1]; omega) ok1 sh (c1.trans (by omega)) hn (by rw [c0, e0]; omega)
  have hl2 : (newW H L W1 s x).length = 16 + 2 * H := by rw [new_len, hl1]
  obtain ⟨d0, d1, d2, d3⟩ := m2.ctl
  have hd2 := m2.hd
  have z2 := fun i (h0 : 16 + n < i) (h1 : i < 16 + n + n) => m2.zero h0 h1
  have z3 : ∀ i, 16 < i → i < 16 + n → (newW H L W1 s x).getD i 0 = 0 := fun i h0 h1 => by
    rw [m2.other (.inl h1) (by omega)]
    exact z1 i h0 h1
  have hd3 : (newW H L W1 s x).getD 16 0 = hdI s x := by
    rw [m2.other (.inl (by omega)) (by omega)]
    exact hd1
  have ok2 := m2.ok'
  generalize newW H L W1 s x = W2 at *
  have sp2 : hSp W2 = 0 := d0.trans (c0.trans e0)
  have i16 : inB H (hSp W2) 16 = true := by rw [sp2]; exact decide_eq_true (by omega)
  have ib : inB H (hSp W2) (16 + (n : Int)) = true := by rw [sp2]; exact decide_eq_true (by omega)
  obtain ⟨oa, ea, sa, wa⟩ := obj_here ok2 i16 sh hd3 (by rw [d1]; omega) (by omega)
  obtain ⟨ob, eb, sb, wb⟩ := obj_here ok2 ib sh (by rw [show (16 + (n : Int)).toNat = 16 + n by omega]; exact hd2) (by rw [d1]; omega) (by omega)
  have p2 : ptE H L W2 16 k (16 + (n : Int)) = 0 := by rw [ptE, if_pos ea, if_pos (.inr ob), sa, if_neg (by omega)]
  have w3 : ptW H L W2 16 k (16 + (n : Int)) = W2.set (17 + k) (16 + (n : Int)) := by rw [ptW, if_pos p2, show ((16 : Int) + 1 + (k : Int)).toNat = 17 + k by omega]
  rw [w3]
  refine ⟨m1, m2, p2, ?_⟩
  have g3 : ∀ i, i ≠ 17 + k → (W2.set (17 + k) (16 + (n : Int))).getD i 0 = W2.getD i 0 := fun i q => getD_set_ne (fun z => q z.symm)
  have g3' : (W2.set (17 + k) (16 + (n : Int))).getD (17 + k) 0 = 16 + (n : Int) := getD_set_eq (by omega)
  have ok3 : hOk H L (W2.set (17 + k) (16 + (n : Int))) = true := ok_set ok2 (by omega) _
  have hl3 : (W2.set (17 + k) (16 + (n : Int))).length = 16 + 2 * H := by rw [List.length_set, hl2]
  generalize W2.set (17 + k) (16 + (n : Int)) = W3 at *
  have sp3 : hSp W3 = 0 := (g3 0 (by omega)).trans sp2
  have fr3 : hFr W3 = 16 + (n : Int) + n := (g3 1 (by omega)).trans (d1.trans (by omega))
  have tb : (16 + (n : Int)).toNat = 16 + n := by omega
  obtain ⟨ob3, eb3, sb3, wb3⟩ := obj_here ok3 (a := 16 + (n : Int)) (by rw [sp3]; exact decide_eq_true (by omega)) sh (by rw [tb, g3 _ (by omega)]; exact hd2) (by rw [fr3]; omega) (by omega)
  have hv : hbNum v = true := decide_eq_true (by omega)
  have p3 : swE H L W3 (16 + (n : Int)) m v = 0 := by rw [swE, if_pos eb3, if_pos hv, wb3, if_neg (by omega)]
  obtain ⟨sN, hsN⟩ := Int.eq_ofNat_of_zero_le s0
  have w4 : swW H L W3 (16 + (n : Int)) m v = W3.set (17 + n + sN + m) v := by rw [swW, if_pos p3, sb3, show (16 + (n : Int) + 1 + s + (m : Int)).toNat = 17 + n + sN + m by omega]
  rw [w4]
  refine ⟨p3, ?_⟩
  have hc : 17 + n + sN + m < W3.length := by omega
  have g4 : ∀ i, i ≠ 17 + n + sN + m → (W3.set (17 + n + sN + m) v).getD i 0 = W3.getD i 0 := fun i q => getD_set_ne (fun z => q z.symm)
  have g4' : (W3.set (17 + n + sN + m) v).getD (17 + n + sN + m) 0 = v := getD_set_eq hc
  have ok4 : hOk H L (W3.set (17 + n + sN + m) v) = true := ok_set ok3 (by omega) _
  generalize W3.set (17 + n + sN + m) v = W4 at *
  have sp4 : hSp W4 = 0 := (g4 0 (by omega)).trans sp3
  have fr4 : hFr W4 = 16 + (n : Int) + n := (g4 1 (by omega)).trans fr3
  have ib4 : inB H (hSp W4) (16 + (n : Int)) = true := by rw [sp4]; exact decide_eq_true (by omega)
  obtain ⟨oa4, ea4, sa4, wa4⟩ := obj_here ok4 (a := 16) (by rw [sp4]; exact decide_eq_true (by omega)) sh (by rw [show (16 : Int).toNat = 16 from rfl, g4 _ (by omega), g3 _ (by omega)]; exact hd3) (by rw [fr4]; omega) (by omega)
  obtain ⟨ob4, eb4, sb4, wb4⟩ := obj_here ok4 ib4 sh (by rw [tb, g4 _ (by omega), g3 _ (by omega)]; exact hd2) (by rw [fr4]; omega) (by omega)
  refine ⟨fun j hj => ?_, fun j hj => ?_, fun j hj => ?_, fun j hj => ?_, ?_⟩
  · have t : ((16 : Int) + 1 + (j : Int)).toNat = 17 + j := by omega
    have c : W4.getD ((16 : Int) + 1 + (j : Int)).toNat 0 = if j = k then 16 + (n : Int) else 0 := by
      rw [t, g4 _ (by omega)]
      by_cases e : j = k
      · rw [if_pos e, e, g3']
      · rw [if_neg e, g3 _ (by omega), z3 _ (by omega) (by omega)]
    have := load_here ok4 ea4 (Int.natCast_nonneg j) (by rw [sa4]; exact hj) (by
      rw [c]
      by_cases e : j = k
      · rw [if_pos e]
        exact .inr ib4
      · rw [if_neg e]
        exact .inl rfl)
    rw [c] at this
    exact this
  · have t : (16 + (n : Int) + 1 + (j : Int)).toNat = 17 + n + j := by omega
    have c : W4.getD (16 + (n : Int) + 1 + (j : Int)).toNat 0 = 0 := by rw [t, g4 _ (by omega), g3 _ (by omega), z2 _ (by omega) (by omega)]
    have := load_here ok4 eb4 (Int.natCast_nonneg j) (by rw [sb4]; exact hj) (.inl c)
    rw [c] at this
    exact this
  · have := word_here ea4 (Int.natCast_nonneg j) (by rw [wa4]; exact hj)
    rw [sa4, show ((16 : Int) + 1 + s + (j : Int)).toNat = 17 + sN + j by omega, g4 _ (by omega), g3 _ (by omega), z3 _ (by omega) (by omega)] at this
    exact this
  · have := word_here eb4 (Int.natCast_nonneg j) (by rw [wb4]; exact hj)
    rw [sb4, show (16 + (n : Int) + 1 + s + (j : Int)).toNat = 17 + n + sN + j by omega] at this
    refine ⟨this.1, this.2.trans ?_⟩
    by_cases e : j = m
    · rw [if_pos e, e, g4']
    · rw [if_neg e, g4 _ (by omega), g3 _ (by omega), z2 _ (by omega) (by omega)]
  · have l8 : loadE H L W4 16 s = 8 := by rw [loadE, if_pos ea4, if_pos (.inr (by rw [sa4]; exact Int.le_refl _))]
    have s7 : ptE H L W4 0 0 16 = 7 := by rw [ptE, shpE, if_pos rfl, if_neg (by decide)]
    have s8 : swE H L W4 16 x 1 = 8 := by rw [swE, if_pos ea4, if_pos (by decide), if_pos (.inr (by rw [wa4]; exact Int.le_refl _))]
    refine ⟨l8, ?_, ?_, s7, ?_, s8, ?_⟩
    · rw [loadW, if_pos ea4, if_pos (.inr (by rw [sa4]; exact Int.le_refl _))]
    · rw [wrdE, if_pos eb4, if_pos (.inl (by decide))]
    · rw [ptW, s7, if_neg (by decide)]
    · rw [swW, s8, if_neg (by decide)]
end Go.Proofs.YtjengjmhjccnoaaGreatDoor
