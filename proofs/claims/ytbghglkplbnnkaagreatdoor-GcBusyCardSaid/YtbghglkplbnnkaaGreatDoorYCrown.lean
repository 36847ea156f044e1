import Derived.Deep.RegionHeld3
import Derived.Deep.RegionWith
import Derived.Test.YtbghglkplbnnkaaGreatDoorYSeal
import Derived.Test.YtbghglkplbnnkaaGreatDoorYFive
set_option linter.unusedVariables false
set_option linter.unusedSimpArgs false
-- CrownMath
namespace Go.Proofs.YtbghglkplbnnkaaGreatDoor
open Go.RowKit

structure Sup where
  q : Int
  h : Int
  e : Int
  f : Int
  g : Int
def Sup.val (s : Sup) : Value := .agg #[.int .i64 s.q, .int .i64 s.h, .int .i64 s.e, .int .i64 s.f, .int .i64 s.g]
def mostI (v : Int) : Bool := decide (0 ≤ v ∧ v ≤ 900000000)
def supOk (s : Sup) : Bool := mostI s.q && mostI s.h && mostI s.e && decide (8 ≤ s.f) && decide (s.f ≤ 400) && decide (4 ≤ s.g) && decide (s.g ≤ 300)
def flit : ByteArray := ⟨#[70, 76, 73, 84]⟩
def crBody (s : Sup) : ByteArray := flit ++ putS s.q 4 ++ putS s.h 4 ++ putS s.e 4 ++ putS s.f 2 ++ putS s.g 2
def crB (s : Sup) : ByteArray := sealB (crBody s) 32
theorem putS_max (v n : Int) (h : 0 ≤ n) : ((putS v n).size : Int) ≤ n := by
  unfold putS
  split
  · rw [putB_size]; omega
  · exact h
theorem crBody_le (s : Sup) : (crBody s).size ≤ 20 := by
  have h1 := putS_max s.q 4 (by omega)
  have h2 := putS_max s.h 4 (by omega)
  have h3 := putS_max s.e 4 (by omega)
  have h4 := putS_max s.f 2 (by omega)
  have h5 := putS_max s.g 2 (by omega)
  unfold crBody
  simp only [ByteArray.size_append, show flit.size = 4 from rfl]
  omega
theorem crB_is (s : Sup) : sealS (crBody s) 32 = crB s := if_pos ⟨by omega, by omega, by have := crBody_le s; omega⟩
theorem crB_size (s : Sup) : (crB s).size = 32 := sealB_size _ _ (by omega) (by have := crBody_le s; omega)

def supOf (t : ByteArray) : Sup := ⟨getI (t.extract 4 8), getI (t.extract 8 12), getI (t.extract 12 16), getI (t.extract 16 18), getI (t.extract 18 20)⟩
def crIs (b : ByteArray) : Bool := decide (b.size = 32 ∧ supOk (supOf b) = true ∧ crB (supOf b) = b)
theorem cr_list (b : ByteArray) (i j : Nat) : (b.extract i j).data.toList = (b.data.toList.drop i).take (j - i) := by
  simp [ByteArray.data_extract, Array.toList_extract, List.extract_eq_take_drop]
theorem put_list {v N : Int} {n : Nat} (hN : N = n) (h0 : 0 ≤ v) (h1 : v < 4294967296) (hn : 1 ≤ n) (hn8 : n ≤ 8) : (putS v N).data.toList.length = n ∧ numL (putS v N).data.toList = v % 256 ^ n := by
  subst hN
  have : putS v n = putB v n := if_pos ⟨h0, h1, by omega, by omega⟩
  rw [this]
  exact ⟨by rw [ba_len, putB_size], by rw [putB, strOf_list, numL_put v h0]⟩
theorem mid_list {a x b : List UInt8} {i n : Nat} (hi : a.length = i) (hx : x.length = n) : ((a ++ (x ++ b)).drop i).take n = x := by
  rw [List.drop_left' hi, ← hx, List.take_left']
  rfl
theorem getI_list {b : ByteArray} {i j : Nat} {x : List UInt8} (h : (b.extract i j).data.toList = x) (hx : x.length ≤ 7) : getI (b.extract i j) = numL x := by
  rw [getI, h, List.take_of_length_le hx]
theorem most_of {v : Int} (h : mostI v = true) : 0 ≤ v ∧ v ≤ 900000000 := of_decide_eq_true h
theorem sup_of {s : Sup} (h : supOk s = true) : (0 ≤ s.q ∧ s.q ≤ 900000000) ∧ (0 ≤ s.h ∧ s.h ≤ 900000000) ∧ (0 ≤ s.e ∧ s.e ≤ 900000000) ∧ (8 ≤ s.f ∧ s.f ≤ 400) ∧ (4 ≤ s.g ∧ s.g ≤ 300) := by
  simp only [supOk, Bool.and_eq_true, decide_eq_true_eq] at h
  obtain ⟨⟨⟨⟨⟨⟨h1, h2⟩, h3⟩, h4⟩, h5⟩, h6⟩, h7⟩ := h
  exact ⟨most_of h1, most_of h2, most_of h3, ⟨h4, h5⟩, ⟨h6, h7⟩⟩
theorem sup_back {s : Sup} (h : supOk s = true) : supOf (crB s) = s := by
  obtain ⟨⟨q0, q1⟩, ⟨h0, h1⟩, ⟨e0, e1⟩, ⟨f0, f1⟩, ⟨g0, g1⟩⟩ := sup_of h
  obtain ⟨q, hh, e, f, g⟩ := s
  simp only at q0 q1 h0 h1 e0 e1 f0 f1 g0 g1
  obtain ⟨lq, nq⟩ := put_list (v := q) (N := 4) (n := 4) rfl q0 (by omega) (by omega) (by omega)
  obtain ⟨lh, nh⟩ := put_list (v := hh) (N := 4) (n := 4) rfl h0 (by omega) (by omega) (by omega)
  obtain ⟨le, ne⟩ := put_list (v := e) (N := 4) (n := 4) rfl e0 (by omega) (by omega) (by omega)
  obtain ⟨lf, nf⟩ := put_list (v := f) (N := 2) (n := 2) rfl (by omega) (by omega) (by omega) (by omega)
  obtain ⟨lg, ng⟩ := put_list (v := g) (N := 2) (n := 2) rfl (by omega) (by omega) (by omega) (by omega)
  obtain ⟨T, hT⟩ : ∃ T : ByteArray, crB ⟨q, hh, e, f, g⟩ = crBody ⟨q, hh, e, f, g⟩ ++ T := ⟨zeros (32 - 4 - (crBody ⟨q, hh, e, f, g⟩).size) ++ putS (sumI (sealBody (crBody ⟨q, hh, e, f, g⟩) 32).data.toList) 4, by
    rw [crB, sealB, ← ByteArray.append_assoc]; rfl⟩
  have hl : (crB ⟨q, hh, e, f, g⟩).data.toList = flit.data.toList ++ ((putS q 4).data.toList ++ ((putS hh 4).data.toList ++ ((putS e 4).data.toList ++ ((putS f 2).data.toList ++ ((putS g 2).data.toList ++ T.data.toList))))) := by
    rw [hT]
    simp only [crBody, ba_append, List.append_assoc]
  have l4 : flit.data.toList.length = 4 := rfl
  have x1 : ((crB ⟨q, hh, e, f, g⟩).extract 4 8).data.toList = (putS q 4).data.toList := by
    rw [cr_list, hl]
    exact mid_list l4 lq
  have x2 : ((crB ⟨q, hh, e, f, g⟩).extract 8 12).data.toList = (putS hh 4).data.toList := by
    rw [cr_list, hl, ← List.append_assoc]
    exact mid_list (by rw [List.length_append]; omega) lh
  have x3 : ((crB ⟨q, hh, e, f, g⟩).extract 12 16).data.toList = (putS e 4).data.toList := by
    rw [cr_list, hl, ← List.append_assoc, ← List.append_assoc]
    exact mid_list (by simp only [List.length_append]; omega) le
  have x4 : ((crB ⟨q, hh, e, f, g⟩).extract 16 18).data.toList = (putS f 2).data.toList := by
    rw [cr_list, hl, ← List.append_assoc, ← List.append_assoc, ← List.append_assoc]
    exact mid_list (by simp only [List.length_append]; omega) lf
  have x5 : ((crB ⟨q, hh, e, f, g⟩).extract 18 20).data.toList = (putS g 2).data.toList := by
    rw [cr_list, hl, ← List.append_assoc, ← List.append_assoc, ← List.append_assoc, ← List.append_assoc]
    exact mid_list (by simp only [List.length_append]; omega) lg
  rw [supOf, getI_list x1 (by omega), getI_list x2 (by omega), getI_list x3 (by omega), getI_list x4 (by omega), getI_list x5 (by omega), nq, nh, ne, nf, ng,
    Int.emod_eq_of_lt q0 (by omega), Int.emod_eq_of_lt h0 (by omega), Int.emod_eq_of_lt e0 (by omega), Int.emod_eq_of_lt (by omega) (by omega), Int.emod_eq_of_lt (by omega) (by omega)]
theorem cr_put {s : Sup} (h : supOk s = true) : crIs (crB s) = true ∧ supOf (crB s) = s := by
  have e := sup_back h
  exact ⟨decide_eq_true ⟨crB_size s, by rw [e]; exact h, by rw [e]⟩, e⟩
end Go.Proofs.YtbghglkplbnnkaaGreatDoor
-- CrownPut
namespace Go.Proofs.YtbghglkplbnnkaaGreatDoor
open Go.RowKit

def within (v a b : Int) : Bool := decide (a ≤ v ∧ v ≤ b)
theorem within_is (v a b : Int) (w : World) : Calls Tryz.prog 158 #[.int .i64 v, .int .i64 a, .int .i64 b] w fun e w' => e = .returned (.bool (within v a b)) ∧ w' = w := by
  by_cases h : a ≤ v
  · by_cases h2 : v ≤ b
    · have H := Lib.hid (show within v a b = true from decide_eq_true ⟨h, h2⟩)
      rw [H.out]
      go_enter Tryz.func158, Tryz.ntmps158
      go_wp2
      all_goals
        go_ret
        exact ⟨rfl, rfl⟩
    · have H := Lib.hid (show within v a b = false from decide_eq_false (fun q => h2 q.2))
      rw [H.out]
      go_enter Tryz.func158, Tryz.ntmps158
      go_wp2
      all_goals
        go_ret
        exact ⟨rfl, rfl⟩
  · have H := Lib.hid (show within v a b = false from decide_eq_false (fun q => h q.1))
    rw [H.out]
    go_enter Tryz.func158, Tryz.ntmps158
    go_wp2
    all_goals
      go_ret
      exact ⟨rfl, rfl⟩
theorem supOk_is (s : Sup) : supOk s = (within s.q 0 900000000 && within s.h 0 900000000 && within s.e 0 900000000 && within s.f 8 400 && within s.g 4 300) := by
  unfold supOk mostI within
  rw [Bool.eq_iff_iff]
  simp only [Bool.and_eq_true, decide_eq_true_eq]
  omega

set_option maxRecDepth 100000 in
set_option maxHeartbeats 1000000 in
theorem cright_is (s : Sup) (w : World) : Calls Tryz.prog 133 #[s.val] w fun e w' => e = .returned (.bool (supOk s)) ∧ Below w.heap.size w w' := by
  rw [supOk_is]
  obtain ⟨q, h, e, f, g⟩ := s
  show Calls Tryz.prog 133 #[.agg #[.int .i64 q, .int .i64 h, .int .i64 e, .int .i64 f, .int .i64 g]] w _
  have HM := Lib.hid within_is
  simp only
  go_enter Tryz.func133, Tryz.ntmps133
  go_wp2_with (go_at_call 158; refine (HM.out _ _ _ _).mono ?_; rintro e' w1 ⟨rfl, rfl⟩)
  all_goals
    go_ret
    refine ⟨rt_b ?_, (Below.refl _ _).alloc (Nat.le_refl _) _⟩
    simp_all

theorem place_is (s : Sup) (w : World) : Calls Tryz.prog 125 #[s.val] w fun e w' => e = .returned (.int .i64 (bits BinOp.and .i64 s.q 1)) ∧ Below w.heap.size w w' := by
  obtain ⟨q, h, e, f, g⟩ := s
  show Calls Tryz.prog 125 #[.agg #[.int .i64 q, .int .i64 h, .int .i64 e, .int .i64 f, .int .i64 g]] w _
  simp only
  go_enter Tryz.func125, Tryz.ntmps125
  go_wp2
  go_ret
  exact ⟨rfl, (Below.refl _ _).alloc (Nat.le_refl _) _⟩

def cputS (s : Sup) : ByteArray := if supOk s = true then crB s else ByteArray.empty
theorem cput_no (s : Sup) (h : supOk s = false) (w : World) : Calls Tryz.prog 124 #[s.val] w fun e w' => e = .returned (.tuple #[.string ByteArray.empty, .bool false]) ∧ Below w.heap.size w w' := by
  have HR := Lib.hid (cright_is s)
  rw [h] at HR
  clear h
  obtain ⟨q, h, e, f, g⟩ := s
  show Calls Tryz.prog 124 #[.agg #[.int .i64 q, .int .i64 h, .int .i64 e, .int .i64 f, .int .i64 g]] w _
  go_enter Tryz.func124, Tryz.ntmps124
  go_wp2_with (go_at_call 133; refine (HR.out _).mono ?_; rintro e' w1 ⟨rfl, b1⟩)
  go_ret2
  exact ⟨rfl, ((Below.refl _ _).alloc (Nat.le_refl _) _).trans (b1.mono (by simp))⟩

set_option maxRecDepth 100000 in
set_option maxHeartbeats 4000000 in
theorem cput_yes (s : Sup) (hk : supOk s = true) (w : World) : Calls Tryz.prog 124 #[s.val] w fun e w' => e = .returned (.tuple #[.string (crB s), .bool true]) ∧ Below w.heap.size w w' := by
  have HR := Lib.hid (cright_is s)
  rw [hk] at HR
  clear hk
  obtain ⟨q, h, e, f, g⟩ := s
  show Calls Tryz.prog 124 #[.agg #[.int .i64 q, .int .i64 h, .int .i64 e, .int .i64 f, .int .i64 g]] w _
  have P1 := Lib.hid (Put_is q 4)
  have P2 := Lib.hid (Put_is h 4)
  have P3 := Lib.hid (Put_is e 4)
  have P4 := Lib.hid (Put_is f 2)
  have P5 := Lib.hid (Put_is g 2)
  have m1 := putS_max q 4 (by omega)
  have m2 := putS_max h 4 (by omega)
  have m3 := putS_max e 4 (by omega)
  have m4 := putS_max f 2 (by omega)
  have m5 := putS_max g 2 (by omega)
  have HB := Lib.hid (show crB ⟨q, h, e, f, g⟩ = sealS (flit ++ putS q 4 ++ putS h 4 ++ putS e 4 ++ putS f 2 ++ putS g 2) 32 from (crB_is _).symm)
  have HBX := Lib.hid (box5 w (.int .i64 q) (.int .i64 h) (.int .i64 e) (.int .i64 f) (.int .i64 g) 113)
  go_enter Tryz.func124, Tryz.ntmps124
  go_wp2_with (go_at_call 133; refine (HR.out _).mono ?_; rintro e' w1 ⟨rfl, b1⟩)
  have HK := Lib.hid (keep5 HBX.out b1)
  clear b1 HBX
  generalize putS q 4 = p1 at *
  generalize putS h 4 = p2 at *
  generalize putS e 4 = p3 at *
  generalize putS f 2 = p4 at *
  generalize putS g 2 = p5 at *
  have z2' : ¬ 9223372036854775807 < p1.size + p2.size := by omega
  have z3' : ¬ 9223372036854775807 < p1.size + p2.size + p3.size := by omega
  go_region_held3 (fun u => u.cell? ⟨w.heap.size, 0, none⟩ = some (.int .i64 q) ∧ u.cell? ⟨w.heap.size, 1, none⟩ = some (.int .i64 h) ∧ u.cell? ⟨w.heap.size, 2, none⟩ = some (.int .i64 e) ∧ u.cell? ⟨w.heap.size, 3, none⟩ = some (.int .i64 f) ∧ u.cell? ⟨w.heap.size, 4, none⟩ = some (.int .i64 g) ∧ w.heap.size < u.heap.size ∧ Below w.heap.size w u) (first
      | assumption
      | exact HK.out
      | exact keep5 HK.out (Below.refl _ _).drew
      | exact keep5 (by assumption) b2) (first
    | (go_at_call 149
       (first | (with_reducible refine (P1.out _).mono ?_) | (with_reducible refine (P2.out _).mono ?_) | (with_reducible refine (P3.out _).mono ?_))
       rintro e' w2 ⟨rfl, b2⟩))
  rename_i hH
  have HK := Lib.hid hH
  clear hH
  have HX := Lib.hid (show flit ++ (p1 ++ p2 ++ p3) ++ p4 ++ p5 = flit ++ p1 ++ p2 ++ p3 ++ p4 ++ p5 by simp only [ByteArray.append_assoc])
  rw [← HX.out] at HB
  have HF := Lib.hid (show (⟨#[70, 76, 73, 84]⟩ : ByteArray) = flit from rfl)
  have mF : flit.size = 4 := rfl
  have mW : (p1 ++ p2 ++ p3).size ≤ 12 := by simp only [ByteArray.size_append]; omega
  go_wp2_with fail
  generalize p1 ++ p2 ++ p3 = wd at *
  have y1 : ¬ 9223372036854775807 < 4 + wd.size := by omega
  have y2 : ¬ 9223372036854775807 < 4 + wd.size + p4.size := by omega
  have y3 : ¬ 9223372036854775807 < 4 + wd.size + p4.size + p5.size := by omega
  have HM := Lib.hid (show (flit ++ wd ++ p4 ++ p5).size ≤ maxLen by simp only [ByteArray.size_append, maxLen]; omega)
  have HS := Lib.hid (Seal_is (flit ++ wd ++ p4 ++ p5) 32 HM.out)
  rw [← HB.out] at HS
  clear mF mW m1 m2 m3 m4 m5 z2' z3' HR P1 P2 P3 HM HX
  go_region_held3 (fun u => u.cell? ⟨w.heap.size, 0, none⟩ = some (.int .i64 q) ∧ u.cell? ⟨w.heap.size, 1, none⟩ = some (.int .i64 h) ∧ u.cell? ⟨w.heap.size, 2, none⟩ = some (.int .i64 e) ∧ u.cell? ⟨w.heap.size, 3, none⟩ = some (.int .i64 f) ∧ u.cell? ⟨w.heap.size, 4, none⟩ = some (.int .i64 g) ∧ w.heap.size < u.heap.size ∧ Below w.heap.size w u) (first
      | assumption
      | exact HK.out
      | exact keep5 HK.out (Below.refl _ _).drew
      | exact keep5 (by assumption) b2) (first
    | (go_at_call 149
       (first | (with_reducible refine (P4.out _).mono ?_) | (with_reducible refine (P5.out _).mono ?_))
       rintro e' w2 ⟨rfl, b2⟩)
    | (go_at_call 147
       refine (HS.out _).mono ?_
       rintro e' w2 ⟨rfl, b2⟩))
  rename_i hH
  have HK := Lib.hid hH
  clear hH
  go_wp2_with fail

  go_ret2
  exact ⟨rfl, HK.out.2.2.2.2.2.2⟩
end Go.Proofs.YtbghglkplbnnkaaGreatDoor
-- CrownRow
namespace Go.Proofs.YtbghglkplbnnkaaGreatDoor
open Go.RowKit

theorem Row5.load {w : World} {g : Nat} {v0 v1 v2 v3 v4 : Value} (h : Row5 w g v0 v1 v2 v3 v4) : (loadVar 113 ⟨g, 0, none⟩).run Tryz.prog w = .ok (.agg #[v0, v1, v2, v3, v4]) w := by
  obtain ⟨l0, c0, c1, c2, c3, c4, f0, f1, f2, f3, f4⟩ := h
  simp [go_sem, c0, c1, c2, c3, c4]
end Go.Proofs.YtbghglkplbnnkaaGreatDoor
-- CrownNum
namespace Go.Proofs.YtbghglkplbnnkaaGreatDoor
open Go.RowKit

set_option maxRecDepth 100000 in
set_option maxHeartbeats 4000000 in
theorem cnumbers_is (b : ByteArray) (hb : b.size = 32) (w : World) : Calls Tryz.prog 152 #[.string b] w fun e w' => e = .returned (supOf b).val ∧ Below w.heap.size w w' := by
  have G : ∀ (i j : Nat), j ≤ 32 → ∀ u, Calls Tryz.prog 167 #[.string (b.extract i j)] u fun e w' => e = .returned (.int .i64 (getI (b.extract i j))) ∧ w' = u := fun i j hj u => Get_is _ (by rw [ByteArray.size_extract]; unfold maxLen; omega) u
  have G1 := Lib.hid (G 4 8 (by omega))
  have G2 := Lib.hid (G 8 12 (by omega))
  have G3 := Lib.hid (G 12 16 (by omega))
  have G4 := Lib.hid (G 16 18 (by omega))
  have G5 := Lib.hid (G 18 20 (by omega))
  have s1 := cut_str b 4 8 4 8 rfl rfl (by omega) (by omega)
  have s2 := cut_str b 8 12 8 12 rfl rfl (by omega) (by omega)
  have s3 := cut_str b 12 16 12 16 rfl rfl (by omega) (by omega)
  have s4 := cut_str b 16 18 16 18 rfl rfl (by omega) (by omega)
  have s5 := cut_str b 18 20 18 20 rfl rfl (by omega) (by omega)
  show Calls Tryz.prog 152 #[.string b] w fun e w' => e = .returned (.agg #[.int .i64 (getI (b.extract 4 8)), .int .i64 (getI (b.extract 8 12)), .int .i64 (getI (b.extract 12 16)), .int .i64 (getI (b.extract 16 18)), .int .i64 (getI (b.extract 18 20))]) ∧ Below w.heap.size w w'
  clear G hb
  generalize getI (b.extract 4 8) = x1 at *
  generalize getI (b.extract 8 12) = x2 at *
  generalize getI (b.extract 12 16) = x3 at *
  generalize getI (b.extract 16 18) = x4 at *
  generalize getI (b.extract 18 20) = x5 at *
  generalize b.extract 4 8 = t1 at *
  generalize b.extract 8 12 = t2 at *
  generalize b.extract 12 16 = t3 at *
  generalize b.extract 16 18 = t4 at *
  generalize b.extract 18 20 = t5 at *
  go_enter Tryz.func152, Tryz.ntmps152
  go_wp2_with fail
  go_region_with (first
    | (go_at_call 167
       (first | (with_reducible refine (G1.out _).mono ?_) | (with_reducible refine (G2.out _).mono ?_) | (with_reducible refine (G3.out _).mono ?_) | (with_reducible refine (G4.out _).mono ?_) | (with_reducible refine (G5.out _).mono ?_))
       rintro e' w2 ⟨rfl, rfl⟩))
  all_goals
    go_wp2
    exact bodyPost_ret (v := .agg #[.int .i64 x1, .int .i64 x2, .int .i64 x3, .int .i64 x4, .int .i64 x5]) (by simp [results, Tryz.results152, go_sem]) rfl ⟨rfl, ((Below.refl _ _).alloc (Nat.le_refl _) _).drew⟩
end Go.Proofs.YtbghglkplbnnkaaGreatDoor
-- CrownGet
namespace Go.Proofs.YtbghglkplbnnkaaGreatDoor
open Go.RowKit

def supZ : Sup := ⟨0, 0, 0, 0, 0⟩
def cgetS (b : ByteArray) : Sup := if crIs b = true then supOf b else supZ
theorem cgetS_no {b : ByteArray} (h : crIs b = false) : cgetS b = supZ := if_neg (by rw [h]; decide)
theorem cgetS_yes {b : ByteArray} (h : crIs b = true) : cgetS b = supOf b := if_pos h
theorem cg_no {b : ByteArray} (h : crIs b = false) : Ending.returned (.tuple #[.agg #[.int .i64 0, .int .i64 0, .int .i64 0, .int .i64 0, .int .i64 0], .bool false]) = .returned (.tuple #[(cgetS b).val, .bool (crIs b)]) := by rw [h, cgetS_no h]; rfl
theorem cg_yes {b : ByteArray} {s : Sup} (hs : supOf b = s) (h : crIs b = true) : Ending.returned (.tuple #[.agg #[.int .i64 s.q, .int .i64 s.h, .int .i64 s.e, .int .i64 s.f, .int .i64 s.g], .bool true]) = .returned (.tuple #[(cgetS b).val, .bool (crIs b)]) := by rw [h, cgetS_yes h, hs]; rfl
theorem cput_is (s : Sup) (w : World) : Calls Tryz.prog 124 #[s.val] w fun e w' => e = .returned (.tuple #[.string (cputS s), .bool (supOk s)]) ∧ Below w.heap.size w w' := by
  cases h : supOk s
  · rw [show cputS s = ByteArray.empty from if_neg (by rw [h]; decide)]
    exact cput_no s h w
  · rw [show cputS s = crB s from if_pos h]
    exact cput_yes s h w
set_option maxRecDepth 100000 in
set_option maxHeartbeats 1000000 in
theorem cget_is (b : ByteArray) (hb : b.size ≤ maxLen) (w : World) : Calls Tryz.prog 127 #[.string b] w fun e w' => e = .returned (.tuple #[(cgetS b).val, .bool (crIs b)]) ∧ Below w.heap.size w w' := by
  unfold maxLen at hb
  by_cases h1 : b.size = 32
  · have HN := Lib.hid (cnumbers_is b h1)
    have HP := Lib.hid (cput_is (supOf b))
    have hn : (b.size : Int) = 32 := by omega
    have HI0 : crIs b = (supOk (supOf b) && decide (cputS (supOf b) = b)) := by
      unfold crIs cputS
      rw [Bool.eq_iff_iff]
      simp only [Bool.and_eq_true, decide_eq_true_eq]
      constructor
      · rintro ⟨_, a2, a3⟩
        exact ⟨a2, by rw [if_pos a2]; exact a3⟩
      · rintro ⟨a2, a3⟩
        exact ⟨h1, a2, by rw [if_pos a2] at a3; exact a3⟩
    have HV := Lib.hid (show (supOf b).val = .agg #[.int .i64 (supOf b).q, .int .i64 (supOf b).h, .int .i64 (supOf b).e, .int .i64 (supOf b).f, .int .i64 (supOf b).g] from rfl)
    clear h1
    generalize hsv : supOf b = s at *
    have HSV := Lib.hid hsv
    clear hsv
    generalize supOk s = ok at *
    generalize cputS s = made at *
    generalize hq : decide (made = b) = same at *
    have hst := str_eqB hq
    clear hq
    have HI := Lib.hid HI0
    clear HI0
    rw [HV.out] at HN HP
    go_enter Tryz.func127, Tryz.ntmps127
    go_wp2_with (first
      | (go_at_call 152
         refine (HN.out _).mono ?_
         rintro e' w1 ⟨rfl, b1⟩
         have R1 := Lib.hid (Row5.laid b1)
         clear b1)
      | (go_at_call 124
         refine (HP.out _).mono ?_
         rintro e' w2 ⟨rfl, b2⟩
         have R2 := Lib.hid (Row5.laid b2)
         clear b2
         obtain ⟨_, c0, c1, c2, c3, c4, f0, f1, f2, f3, f4⟩ := R1.out.1.below R2.out.2
         obtain ⟨_, d0, d1, d2, d3, d4, _, _, _, _, _⟩ := R2.out.1))
    all_goals first
      | (refine bodyPost_ret (results_cell2 rfl rfl ((R1.out.1.below R2.out.2).set5 _ _ _ _ _).load rfl) rfl ⟨?_, Row5.kept (below_next R1.out.2 R2.out.2)⟩
         clear HN HP HV hst
         refine cg_no ?_
         rw [HI.out]
         simp_all
         done)
      | (refine bodyPost_ret (results_cell2 rfl rfl ((R1.out.1.below R2.out.2).set5 _ _ _ _ _).load rfl) rfl ⟨?_, Row5.kept (below_next R1.out.2 R2.out.2)⟩
         clear HN HP HV hst
         refine cg_yes HSV.out ?_
         rw [HI.out]
         simp_all)
  · have hn : (b.size : Int) < 32 ∨ 32 < (b.size : Int) := by omega
    have HI := Lib.hid (show crIs b = false from decide_eq_false (fun q => h1 q.1))
    clear h1
    rcases hn with hn | hn
    all_goals
      go_enter Tryz.func127, Tryz.ntmps127
      go_wp2
      refine bodyPost_ret (v := .tuple #[.agg #[.int .i64 0, .int .i64 0, .int .i64 0, .int .i64 0, .int .i64 0], .bool false]) (by simp [results, Tryz.results127, go_sem]) rfl ⟨cg_no HI.out, ?_⟩
      exact (Below.refl _ _).alloc (Nat.le_refl _) _
end Go.Proofs.YtbghglkplbnnkaaGreatDoor
-- CrownNewer
namespace Go.Proofs.YtbghglkplbnnkaaGreatDoor
open Go.RowKit

def nwF (p q : Bool) (x y : Sup) : Bool := p && (!q || decide (y.q ≤ x.q))
def nwS (p q : Bool) (x y : Sup) : Sup := if nwF p q x y = true then x else y
def nwN (p q : Bool) (x y : Sup) : Int := if nwF p q x y = true then 0 else if q = true then 1 else 0
theorem nw_end {p q : Bool} {x y s : Sup} {n : Int} {b : Bool} (h1 : s = nwS p q x y) (h2 : n = nwN p q x y) (h3 : b = (p || q)) : Ending.returned (.tuple #[.agg #[.int .i64 s.q, .int .i64 s.h, .int .i64 s.e, .int .i64 s.f, .int .i64 s.g], .int .i64 n, .bool b]) = .returned (.tuple #[(nwS p q x y).val, .int .i64 (nwN p q x y), .bool (p || q)]) := by
  rw [h1, h2, h3]
  rfl
theorem nw_zero {x y : Sup} (h : y = supZ) : Ending.returned (.tuple #[.agg #[.int .i64 0, .int .i64 0, .int .i64 0, .int .i64 0, .int .i64 0], .int .i64 0, .bool false]) = .returned (.tuple #[(nwS false false x y).val, .int .i64 (nwN false false x y), .bool (false || false)]) := by
  rw [show nwS false false x y = y from rfl, h]
  rfl
theorem size_ne {a b : Nat} (h : a < b) : ¬ a = b := by omega

set_option maxRecDepth 100000 in
set_option maxHeartbeats 2000000 in
theorem newer_with (a b : ByteArray) (x y : Sup) (p q : Bool) (hy : q = false → y = supZ)
    (HA : Hid (∀ u, Calls Tryz.prog 127 #[.string a] u fun e w' => e = .returned (.tuple #[.agg #[.int .i64 x.q, .int .i64 x.h, .int .i64 x.e, .int .i64 x.f, .int .i64 x.g], .bool p]) ∧ Below u.heap.size u w'))
    (HB : Hid (∀ u, Calls Tryz.prog 127 #[.string b] u fun e w' => e = .returned (.tuple #[.agg #[.int .i64 y.q, .int .i64 y.h, .int .i64 y.e, .int .i64 y.f, .int .i64 y.g], .bool q]) ∧ Below u.heap.size u w'))
    (w : World) : Calls Tryz.prog 128 #[.string a, .string b] w fun e w' => e = .returned (.tuple #[(nwS p q x y).val, .int .i64 (nwN p q x y), .bool (p || q)]) ∧ Below w.heap.size w w' := by
  have HY := Lib.hid hy
  clear hy
  cases p <;> cases q
  · go_enter Tryz.func128, Tryz.ntmps128
    go_wp2_with (first
      | (go_at_call 127
         with_reducible refine (HA.out _).mono ?_
         rintro e' w1 ⟨rfl, b1⟩
         have R1 := Lib.hid (Row5.laid b1)
         clear b1)
      | (go_at_call 127
         with_reducible refine (HB.out _).mono ?_
         rintro e' w2 ⟨rfl, b2⟩
         have R2 := Lib.hid (Row5.laid b2)
         clear b2
         obtain ⟨l0, c0, c1, c2, c3, c4, f0, f1, f2, f3, f4⟩ := R1.out.1.below R2.out.2
         obtain ⟨l1, d0, d1, d2, d3, d4, _, _, _, _, _⟩ := R2.out.1
         have n0 := size_ne l0
         have n1 := size_ne l1))
    refine bodyPost_ret (results_cell3 rfl rfl (((R1.out.1.below R2.out.2).set5 _ _ _ _ _).alloc _).load rfl rfl) rfl ⟨?_, (Row5.kept (below_next R1.out.2 R2.out.2)).alloc (Nat.le_of_lt ((R1.out.1.below R2.out.2).set5 _ _ _ _ _).lt) _⟩
    exact nw_zero (by first | exact HY.out rfl | exact HY.out trivial)
  · go_enter Tryz.func128, Tryz.ntmps128
    go_wp2_with (first
      | (go_at_call 127
         with_reducible refine (HA.out _).mono ?_
         rintro e' w1 ⟨rfl, b1⟩
         have R1 := Lib.hid (Row5.laid b1)
         clear b1)
      | (go_at_call 127
         with_reducible refine (HB.out _).mono ?_
         rintro e' w2 ⟨rfl, b2⟩
         have R2 := Lib.hid (Row5.laid b2)
         clear b2
         obtain ⟨l0, c0, c1, c2, c3, c4, f0, f1, f2, f3, f4⟩ := R1.out.1.below R2.out.2
         obtain ⟨l1, d0, d1, d2, d3, d4, _, _, _, _, _⟩ := R2.out.1
         have n0 := size_ne l0
         have n1 := size_ne l1))
    refine bodyPost_ret (results_cell3 rfl rfl (((R1.out.1.below R2.out.2).set5 _ _ _ _ _).alloc _).load rfl rfl) rfl ⟨?_, (Row5.kept (below_next R1.out.2 R2.out.2)).alloc (Nat.le_of_lt ((R1.out.1.below R2.out.2).set5 _ _ _ _ _).lt) _⟩
    exact nw_end rfl rfl rfl
  · go_enter Tryz.func128, Tryz.ntmps128
    go_wp2_with (first
      | (go_at_call 127
         with_reducible refine (HA.out _).mono ?_
         rintro e' w1 ⟨rfl, b1⟩
         have R1 := Lib.hid (Row5.laid b1)
         clear b1)
      | (go_at_call 127
         with_reducible refine (HB.out _).mono ?_
         rintro e' w2 ⟨rfl, b2⟩
         have R2 := Lib.hid (Row5.laid b2)
         clear b2
         obtain ⟨l0, c0, c1, c2, c3, c4, f0, f1, f2, f3, f4⟩ := R1.out.1.below R2.out.2
         obtain ⟨l1, d0, d1, d2, d3, d4, _, _, _, _, _⟩ := R2.out.1
         have n0 := size_ne l0
         have n1 := size_ne l1))
    refine bodyPost_ret (results_cell3 rfl rfl (((R1.out.1.below R2.out.2).set5 _ _ _ _ _).alloc _).load rfl rfl) rfl ⟨?_, (Row5.kept (below_next R1.out.2 R2.out.2)).alloc (Nat.le_of_lt ((R1.out.1.below R2.out.2).set5 _ _ _ _ _).lt) _⟩
    exact nw_end rfl rfl rfl
  · by_cases hxy : y.q ≤ x.q
    · have HF := Lib.hid (show nwF true true x y = true from (by unfold nwF; rw [decide_eq_true hxy]; rfl))
      go_enter Tryz.func128, Tryz.ntmps128
      go_wp2_with (first
        | (go_at_call 127
           with_reducible refine (HA.out _).mono ?_
           rintro e' w1 ⟨rfl, b1⟩
           have R1 := Lib.hid (Row5.laid b1)
           clear b1)
        | (go_at_call 127
           with_reducible refine (HB.out _).mono ?_
           rintro e' w2 ⟨rfl, b2⟩
           have R2 := Lib.hid (Row5.laid b2)
           clear b2
           obtain ⟨l0, c0, c1, c2, c3, c4, f0, f1, f2, f3, f4⟩ := R1.out.1.below R2.out.2
           obtain ⟨l1, d0, d1, d2, d3, d4, _, _, _, _, _⟩ := R2.out.1
           have n0 := size_ne l0
           have n1 := size_ne l1))
      refine bodyPost_ret (results_cell3 rfl rfl (((R1.out.1.below R2.out.2).set5 _ _ _ _ _).alloc _).load rfl rfl) rfl ⟨?_, (Row5.kept (below_next R1.out.2 R2.out.2)).alloc (Nat.le_of_lt ((R1.out.1.below R2.out.2).set5 _ _ _ _ _).lt) _⟩
      exact nw_end (if_pos HF.out).symm (if_pos HF.out).symm rfl
    · have HF := Lib.hid (show nwF true true x y = false from (by unfold nwF; rw [decide_eq_false hxy]; rfl))
      go_enter Tryz.func128, Tryz.ntmps128
      go_wp2_with (first
        | (go_at_call 127
           with_reducible refine (HA.out _).mono ?_
           rintro e' w1 ⟨rfl, b1⟩
           have R1 := Lib.hid (Row5.laid b1)
           clear b1)
        | (go_at_call 127
           with_reducible refine (HB.out _).mono ?_
           rintro e' w2 ⟨rfl, b2⟩
           have R2 := Lib.hid (Row5.laid b2)
           clear b2
           obtain ⟨l0, c0, c1, c2, c3, c4, f0, f1, f2, f3, f4⟩ := R1.out.1.below R2.out.2
           obtain ⟨l1, d0, d1, d2, d3, d4, _, _, _, _, _⟩ := R2.out.1
           have n0 := size_ne l0
           have n1 := size_ne l1))
      refine bodyPost_ret (results_cell3 rfl rfl (((R1.out.1.below R2.out.2).set5 _ _ _ _ _).alloc _).load rfl rfl) rfl ⟨?_, (Row5.kept (below_next R1.out.2 R2.out.2)).alloc (Nat.le_of_lt ((R1.out.1.below R2.out.2).set5 _ _ _ _ _).lt) _⟩
      exact nw_end (if_neg (by rw [HF.out]; decide)).symm (if_neg (by rw [HF.out]; decide)).symm rfl

def newS (a b : ByteArray) : Sup := nwS (crIs a) (crIs b) (cgetS a) (cgetS b)
def newN (a b : ByteArray) : Int := nwN (crIs a) (crIs b) (cgetS a) (cgetS b)
theorem newer_is (a b : ByteArray) (ha : a.size ≤ maxLen) (hb : b.size ≤ maxLen) (w : World) : Calls Tryz.prog 128 #[.string a, .string b] w fun e w' => e = .returned (.tuple #[(newS a b).val, .int .i64 (newN a b), .bool (crIs a || crIs b)]) ∧ Below w.heap.size w w' :=
  newer_with a b (cgetS a) (cgetS b) (crIs a) (crIs b) (fun h => cgetS_no h) (Lib.hid (cget_is a ha)) (Lib.hid (cget_is b hb)) w
end Go.Proofs.YtbghglkplbnnkaaGreatDoor
