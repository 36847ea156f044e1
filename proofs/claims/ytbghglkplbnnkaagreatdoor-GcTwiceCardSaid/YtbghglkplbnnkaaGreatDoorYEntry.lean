import Derived.Deep.RegionHeld3
import Derived.Deep.RegionWith
import Derived.Test.YtbghglkplbnnkaaGreatDoorYSeal
import Derived.Test.YtbghglkplbnnkaaGreatDoorYBook
import Derived.Test.YtbghglkplbnnkaaGreatDoorYFive
set_option linter.unusedVariables false
set_option linter.unusedSimpArgs false
-- EntryMath
namespace Go.Proofs.YtbghglkplbnnkaaGreatDoor
open Go.RowKit

def numI (x : Int) : Bool := decide (0 ≤ x ∧ x < 4294967296)
def entOk (s : Ent) : Bool := decide (s.k = 1 ∨ (s.k = 2 ∧ s.v = 0)) && numI s.l && numI s.e && numI s.c && numI s.v
def enBody (s : Ent) : ByteArray := putS s.k 1 ++ putS s.l 4 ++ putS s.e 4 ++ putS s.c 4 ++ putS s.v 4
def enB (s : Ent) : ByteArray := sealB (enBody s) 32
theorem putE_max (v n : Int) (h : 0 ≤ n) : ((putS v n).size : Int) ≤ n := by
  unfold putS
  split
  · rw [putB_size]; omega
  · exact h
theorem enBody_le (s : Ent) : (enBody s).size ≤ 17 := by
  have h1 := putE_max s.k 1 (by omega)
  have h2 := putE_max s.l 4 (by omega)
  have h3 := putE_max s.e 4 (by omega)
  have h4 := putE_max s.c 4 (by omega)
  have h5 := putE_max s.v 4 (by omega)
  unfold enBody
  simp only [ByteArray.size_append]
  omega
theorem enB_is (s : Ent) : sealS (enBody s) 32 = enB s := if_pos ⟨by omega, by omega, by have := enBody_le s; omega⟩
theorem enB_size (s : Ent) : (enB s).size = 32 := sealB_size _ _ (by omega) (by have := enBody_le s; omega)

def entOf (t : ByteArray) : Ent := ⟨getI (t.extract 0 1), getI (t.extract 1 5), getI (t.extract 5 9), getI (t.extract 9 13), getI (t.extract 13 17)⟩
def enIs (b : ByteArray) : Bool := decide (b.size = 32 ∧ entOk (entOf b) = true ∧ enB (entOf b) = b)
theorem ex_list (b : ByteArray) (i j : Nat) : (b.extract i j).data.toList = (b.data.toList.drop i).take (j - i) := by
  simp [ByteArray.data_extract, Array.toList_extract, List.extract_eq_take_drop]
theorem putE_list {v N : Int} {n : Nat} (hN : N = n) (h0 : 0 ≤ v) (h1 : v < 4294967296) (hn : 1 ≤ n) (hn8 : n ≤ 8) : (putS v N).data.toList.length = n ∧ numL (putS v N).data.toList = v % 256 ^ n := by
  subst hN
  have : putS v n = putB v n := if_pos ⟨h0, h1, by omega, by omega⟩
  rw [this]
  exact ⟨by rw [ba_len, putB_size], by rw [putB, strOf_list, numL_put v h0]⟩
theorem midE_list {a x b : List UInt8} {i n : Nat} (hi : a.length = i) (hx : x.length = n) : ((a ++ (x ++ b)).drop i).take n = x := by
  rw [List.drop_left' hi, ← hx, List.take_left']
  rfl
theorem getE_list {b : ByteArray} {i j : Nat} {x : List UInt8} (h : (b.extract i j).data.toList = x) (hx : x.length ≤ 7) : getI (b.extract i j) = numL x := by
  rw [getI, h, List.take_of_length_le hx]
theorem num_of {v : Int} (h : numI v = true) : 0 ≤ v ∧ v < 4294967296 := of_decide_eq_true h
theorem ent_of {s : Ent} (h : entOk s = true) : (s.k = 1 ∨ (s.k = 2 ∧ s.v = 0)) ∧ (0 ≤ s.l ∧ s.l < 4294967296) ∧ (0 ≤ s.e ∧ s.e < 4294967296) ∧ (0 ≤ s.c ∧ s.c < 4294967296) ∧ (0 ≤ s.v ∧ s.v < 4294967296) := by
  simp only [entOk, Bool.and_eq_true, decide_eq_true_eq] at h
  obtain ⟨⟨⟨⟨h1, h2⟩, h3⟩, h4⟩, h5⟩ := h
  exact ⟨h1, num_of h2, num_of h3, num_of h4, num_of h5⟩
theorem ent_back {s : Ent} (h : entOk s = true) : entOf (enB s) = s := by
  obtain ⟨hk, ⟨l0, l1⟩, ⟨e0, e1⟩, ⟨c0, c1⟩, ⟨v0, v1⟩⟩ := ent_of h
  obtain ⟨k, l, e, c, v⟩ := s
  simp only at hk l0 l1 e0 e1 c0 c1 v0 v1
  obtain ⟨lk, nk⟩ := putE_list (v := k) (N := 1) (n := 1) rfl (by omega) (by omega) (by omega) (by omega)
  obtain ⟨ll, nl⟩ := putE_list (v := l) (N := 4) (n := 4) rfl l0 l1 (by omega) (by omega)
  obtain ⟨le, ne⟩ := putE_list (v := e) (N := 4) (n := 4) rfl e0 e1 (by omega) (by omega)
  obtain ⟨lc, nc⟩ := putE_list (v := c) (N := 4) (n := 4) rfl c0 c1 (by omega) (by omega)
  obtain ⟨lv, nv⟩ := putE_list (v := v) (N := 4) (n := 4) rfl v0 v1 (by omega) (by omega)
  obtain ⟨T, hT⟩ : ∃ T : ByteArray, enB ⟨k, l, e, c, v⟩ = enBody ⟨k, l, e, c, v⟩ ++ T := ⟨zeros (32 - 4 - (enBody ⟨k, l, e, c, v⟩).size) ++ putS (sumI (sealBody (enBody ⟨k, l, e, c, v⟩) 32).data.toList) 4, by
    rw [enB, sealB, ← ByteArray.append_assoc]; rfl⟩
  have hl : (enB ⟨k, l, e, c, v⟩).data.toList = [] ++ ((putS k 1).data.toList ++ ((putS l 4).data.toList ++ ((putS e 4).data.toList ++ ((putS c 4).data.toList ++ ((putS v 4).data.toList ++ T.data.toList))))) := by
    rw [hT]
    simp only [enBody, ba_append, List.append_assoc, List.nil_append]
  have x1 : ((enB ⟨k, l, e, c, v⟩).extract 0 1).data.toList = (putS k 1).data.toList := by
    rw [ex_list, hl]
    exact midE_list rfl lk
  have x2 : ((enB ⟨k, l, e, c, v⟩).extract 1 5).data.toList = (putS l 4).data.toList := by
    rw [ex_list, hl, ← List.append_assoc]
    exact midE_list (by simp only [List.length_append, List.length_nil]; omega) ll
  have x3 : ((enB ⟨k, l, e, c, v⟩).extract 5 9).data.toList = (putS e 4).data.toList := by
    rw [ex_list, hl, ← List.append_assoc, ← List.append_assoc]
    exact midE_list (by simp only [List.length_append, List.length_nil]; omega) le
  have x4 : ((enB ⟨k, l, e, c, v⟩).extract 9 13).data.toList = (putS c 4).data.toList := by
    rw [ex_list, hl, ← List.append_assoc, ← List.append_assoc, ← List.append_assoc]
    exact midE_list (by simp only [List.length_append, List.length_nil]; omega) lc
  have x5 : ((enB ⟨k, l, e, c, v⟩).extract 13 17).data.toList = (putS v 4).data.toList := by
    rw [ex_list, hl, ← List.append_assoc, ← List.append_assoc, ← List.append_assoc, ← List.append_assoc]
    exact midE_list (by simp only [List.length_append, List.length_nil]; omega) lv
  rw [entOf, getE_list x1 (by omega), getE_list x2 (by omega), getE_list x3 (by omega), getE_list x4 (by omega), getE_list x5 (by omega), nk, nl, ne, nc, nv,
    Int.emod_eq_of_lt (by omega) (by omega), Int.emod_eq_of_lt l0 (by omega), Int.emod_eq_of_lt e0 (by omega), Int.emod_eq_of_lt c0 (by omega), Int.emod_eq_of_lt v0 (by omega)]
theorem en_put {s : Ent} (h : entOk s = true) : enIs (enB s) = true ∧ entOf (enB s) = s := by
  have e := ent_back h
  exact ⟨decide_eq_true ⟨enB_size s, by rw [e]; exact h, by rw [e]⟩, e⟩
end Go.Proofs.YtbghglkplbnnkaaGreatDoor
-- EntryPut
namespace Go.Proofs.YtbghglkplbnnkaaGreatDoor
open Go.RowKit

theorem numE_is (v : Int) (w : World) : Calls Tryz.prog 198 #[.int .i64 v] w fun e w' => e = .returned (.bool (numI v)) ∧ w' = w := by
  by_cases h : 0 ≤ v
  · by_cases h2 : v < 4294967296
    · have H := Lib.hid (show numI v = true from decide_eq_true ⟨h, h2⟩)
      rw [H.out]
      go_enter Tryz.func198, Tryz.ntmps198
      go_wp2
      all_goals
        go_ret
        exact ⟨rfl, rfl⟩
    · have H := Lib.hid (show numI v = false from decide_eq_false (fun q => h2 q.2))
      rw [H.out]
      go_enter Tryz.func198, Tryz.ntmps198
      go_wp2
      all_goals
        go_ret
        exact ⟨rfl, rfl⟩
  · have H := Lib.hid (show numI v = false from decide_eq_false (fun q => h q.1))
    rw [H.out]
    go_enter Tryz.func198, Tryz.ntmps198
    go_wp2
    all_goals
      go_ret
      exact ⟨rfl, rfl⟩

set_option maxRecDepth 100000 in
set_option maxHeartbeats 1000000 in
theorem right_is (s : Ent) (w : World) : Calls Tryz.prog 197 #[s.val] w fun e w' => e = .returned (.bool (entOk s)) ∧ Below w.heap.size w w' := by
  obtain ⟨k, l, e, c, v⟩ := s
  show Calls Tryz.prog 197 #[.agg #[.int .i64 k, .int .i64 l, .int .i64 e, .int .i64 c, .int .i64 v]] w _
  have HM := Lib.hid numE_is
  by_cases hk2 : k = 2
  · subst hk2
    by_cases hv : v = 0
    · subst hv
      have HE := Lib.hid (show entOk ⟨2, l, e, c, 0⟩ = (numI l && numI e && numI c && numI 0) by simp [entOk])
      rw [HE.out]
      go_enter Tryz.func197, Tryz.ntmps197
      go_wp2_with (go_at_call 198; refine (HM.out _ _).mono ?_; rintro e' w1 ⟨rfl, rfl⟩)
      all_goals
        go_ret
        refine ⟨rt_b ?_, (Below.refl _ _).alloc (Nat.le_refl _) _⟩
        simp_all
    · have HE := Lib.hid (show entOk ⟨2, l, e, c, v⟩ = false by simp [entOk, hv])
      have hv1 : (v == 0) = false := by simpa using hv
      have hv2 : (v != 0) = true := by simpa using hv
      rw [HE.out]
      go_enter Tryz.func197, Tryz.ntmps197
      go_wp2_with (go_at_call 198; refine (HM.out _ _).mono ?_; rintro e' w1 ⟨rfl, rfl⟩)
      all_goals
        go_ret
        exact ⟨rfl, (Below.refl _ _).alloc (Nat.le_refl _) _⟩
  · have hq2 : (k == 2) = false := by simpa using hk2
    by_cases hk1 : k = 1
    · subst hk1
      have HE := Lib.hid (show entOk ⟨1, l, e, c, v⟩ = (numI l && numI e && numI c && numI v) by simp [entOk])
      rw [HE.out]
      go_enter Tryz.func197, Tryz.ntmps197
      go_wp2_with (go_at_call 198; refine (HM.out _ _).mono ?_; rintro e' w1 ⟨rfl, rfl⟩)
      all_goals
        go_ret
        refine ⟨rt_b ?_, (Below.refl _ _).alloc (Nat.le_refl _) _⟩
        simp_all
    · have hq1 : (k == 1) = false := by simpa using hk1
      have HE := Lib.hid (show entOk ⟨k, l, e, c, v⟩ = false by simp [entOk, hk1, hk2])
      rw [HE.out]
      go_enter Tryz.func197, Tryz.ntmps197
      go_wp2_with (go_at_call 198; refine (HM.out _ _).mono ?_; rintro e' w1 ⟨rfl, rfl⟩)
      all_goals
        go_ret
        exact ⟨rfl, (Below.refl _ _).alloc (Nat.le_refl _) _⟩

def eputS (s : Ent) : ByteArray := if entOk s = true then enB s else ByteArray.empty
theorem eput_no (s : Ent) (h : entOk s = false) (w : World) : Calls Tryz.prog 195 #[s.val] w fun e w' => e = .returned (.tuple #[.string ByteArray.empty, .bool false]) ∧ Below w.heap.size w w' := by
  have HR := Lib.hid (right_is s)
  rw [h] at HR
  clear h
  obtain ⟨q, h, e, f, g⟩ := s
  show Calls Tryz.prog 195 #[.agg #[.int .i64 q, .int .i64 h, .int .i64 e, .int .i64 f, .int .i64 g]] w _
  go_enter Tryz.func195, Tryz.ntmps195
  go_wp2_with (go_at_call 197; refine (HR.out _).mono ?_; rintro e' w1 ⟨rfl, b1⟩)
  go_ret2
  exact ⟨rfl, ((Below.refl _ _).alloc (Nat.le_refl _) _).trans (b1.mono (by simp))⟩

set_option maxRecDepth 100000 in
set_option maxHeartbeats 4000000 in
theorem eput_yes (s : Ent) (hk : entOk s = true) (w : World) : Calls Tryz.prog 195 #[s.val] w fun e w' => e = .returned (.tuple #[.string (enB s), .bool true]) ∧ Below w.heap.size w w' := by
  have HR := Lib.hid (right_is s)
  rw [hk] at HR
  clear hk
  obtain ⟨q, h, e, f, g⟩ := s
  show Calls Tryz.prog 195 #[.agg #[.int .i64 q, .int .i64 h, .int .i64 e, .int .i64 f, .int .i64 g]] w _
  have P1 := Lib.hid (Put_is q 1)
  have P2 := Lib.hid (Put_is h 4)
  have P3 := Lib.hid (Put_is e 4)
  have P4 := Lib.hid (Put_is f 4)
  have P5 := Lib.hid (Put_is g 4)
  have m1 := putE_max q 1 (by omega)
  have m2 := putE_max h 4 (by omega)
  have m3 := putE_max e 4 (by omega)
  have m4 := putE_max f 4 (by omega)
  have m5 := putE_max g 4 (by omega)
  have HB := Lib.hid (show enB ⟨q, h, e, f, g⟩ = sealS (putS q 1 ++ putS h 4 ++ putS e 4 ++ putS f 4 ++ putS g 4) 32 from (enB_is _).symm)
  have HBX := Lib.hid (box5 w (.int .i64 q) (.int .i64 h) (.int .i64 e) (.int .i64 f) (.int .i64 g) 262)
  go_enter Tryz.func195, Tryz.ntmps195
  go_wp2_with (go_at_call 197; refine (HR.out _).mono ?_; rintro e' w1 ⟨rfl, b1⟩)
  have HK := Lib.hid (keep5 HBX.out b1)
  clear b1 HBX
  generalize putS q 1 = p1 at *
  generalize putS h 4 = p2 at *
  generalize putS e 4 = p3 at *
  generalize putS f 4 = p4 at *
  generalize putS g 4 = p5 at *
  have z2' : ¬ 9223372036854775807 < p1.size + p2.size := by omega
  have z3' : ¬ 9223372036854775807 < p1.size + p2.size + p3.size := by omega
  go_region_held3 (fun u => u.cell? ⟨w.heap.size, 0, none⟩ = some (.int .i64 q) ∧ u.cell? ⟨w.heap.size, 1, none⟩ = some (.int .i64 h) ∧ u.cell? ⟨w.heap.size, 2, none⟩ = some (.int .i64 e) ∧ u.cell? ⟨w.heap.size, 3, none⟩ = some (.int .i64 f) ∧ u.cell? ⟨w.heap.size, 4, none⟩ = some (.int .i64 g) ∧ w.heap.size < u.heap.size ∧ Below w.heap.size w u) (first
      | assumption
      | exact HK.out
      | exact keep5 HK.out (Below.refl _ _).drew
      | exact keep5 (by assumption) b2) (first
    | (go_at_call 149
       (first | (with_reducible refine (P1.out _).mono ?_) | (with_reducible refine (P2.out _).mono ?_) | (with_reducible refine (P3.out _).mono ?_))
       rintro e' w2 ⟨rfl, b2⟩))
  rename_i hH
  have HK := Lib.hid hH
  clear hH
  have mW : (p1 ++ p2 ++ p3).size ≤ 9 := by simp only [ByteArray.size_append]; omega
  go_wp2_with fail
  generalize p1 ++ p2 ++ p3 = wd at *
  have y2 : ¬ 9223372036854775807 < wd.size + p4.size := by omega
  have y3 : ¬ 9223372036854775807 < wd.size + p4.size + p5.size := by omega
  have HM := Lib.hid (show (wd ++ p4 ++ p5).size ≤ maxLen by simp only [ByteArray.size_append, maxLen]; omega)
  have HS := Lib.hid (Seal_is (wd ++ p4 ++ p5) 32 HM.out)
  rw [← HB.out] at HS
  clear mW m1 m2 m3 m4 m5 z2' z3' HR P1 P2 P3 HM
  go_region_held3 (fun u => u.cell? ⟨w.heap.size, 0, none⟩ = some (.int .i64 q) ∧ u.cell? ⟨w.heap.size, 1, none⟩ = some (.int .i64 h) ∧ u.cell? ⟨w.heap.size, 2, none⟩ = some (.int .i64 e) ∧ u.cell? ⟨w.heap.size, 3, none⟩ = some (.int .i64 f) ∧ u.cell? ⟨w.heap.size, 4, none⟩ = some (.int .i64 g) ∧ w.heap.size < u.heap.size ∧ Below w.heap.size w u) (first
      | assumption
      | exact HK.out
      | exact keep5 HK.out (Below.refl _ _).drew
      | exact keep5 (by assumption) b2) (first
    | (go_at_call 149
       (first | (with_reducible refine (P4.out _).mono ?_) | (with_reducible refine (P5.out _).mono ?_))
       rintro e' w2 ⟨rfl, b2⟩)
    | (go_at_call 147
       refine (HS.out _).mono ?_
       rintro e' w2 ⟨rfl, b2⟩))
  rename_i hH
  have HK := Lib.hid hH
  clear hH
  go_wp2_with fail
  go_ret2
  exact ⟨rfl, HK.out.2.2.2.2.2.2⟩
theorem eput_is (s : Ent) (w : World) : Calls Tryz.prog 195 #[s.val] w fun e w' => e = .returned (.tuple #[.string (eputS s), .bool (entOk s)]) ∧ Below w.heap.size w w' := by
  cases h : entOk s
  · rw [show eputS s = ByteArray.empty from if_neg (by rw [h]; decide)]
    exact eput_no s h w
  · rw [show eputS s = enB s from if_pos h]
    exact eput_yes s h w
end Go.Proofs.YtbghglkplbnnkaaGreatDoor
-- EntryGet
namespace Go.Proofs.YtbghglkplbnnkaaGreatDoor
open Go.RowKit

theorem cut_head (s : ByteArray) (hi : Int) (j : Nat) (h1 : hi = j) (h3 : j ≤ s.size) (u : World) :
    (Instr.slice 9 (.string s) none (some (.int .i64 hi)) none).run Tryz.prog u = .ok (.string (s.extract 0 j)) u := by
  subst h1
  have hu : Tryz.prog.underlying 9 = some .string := Tryz.underlying9
  simp [Instr.slice, run_underlying hu, h3, go_sem]
theorem Row5.loadE {w : World} {g : Nat} {v0 v1 v2 v3 v4 : Value} (h : Row5 w g v0 v1 v2 v3 v4) : (loadVar 262 ⟨g, 0, none⟩).run Tryz.prog w = .ok (.agg #[v0, v1, v2, v3, v4]) w := by
  obtain ⟨l0, c0, c1, c2, c3, c4, f0, f1, f2, f3, f4⟩ := h
  simp [go_sem, c0, c1, c2, c3, c4]
set_option maxRecDepth 100000 in
set_option maxHeartbeats 4000000 in
theorem numbers_is (b : ByteArray) (hb : b.size = 32) (w : World) : Calls Tryz.prog 194 #[.string b] w fun e w' => e = .returned (entOf b).val ∧ Below w.heap.size w w' := by
  have G : ∀ (i j : Nat), j ≤ 32 → ∀ u, Calls Tryz.prog 167 #[.string (b.extract i j)] u fun e w' => e = .returned (.int .i64 (getI (b.extract i j))) ∧ w' = u := fun i j hj u => Get_is _ (by rw [ByteArray.size_extract]; unfold maxLen; omega) u
  have G1 := Lib.hid (G 0 1 (by omega))
  have G2 := Lib.hid (G 1 5 (by omega))
  have G3 := Lib.hid (G 5 9 (by omega))
  have G4 := Lib.hid (G 9 13 (by omega))
  have G5 := Lib.hid (G 13 17 (by omega))
  have s1 := cut_head b 1 1 rfl (by omega)
  have s2 := cut_str b 1 5 1 5 rfl rfl (by omega) (by omega)
  have s3 := cut_str b 5 9 5 9 rfl rfl (by omega) (by omega)
  have s4 := cut_str b 9 13 9 13 rfl rfl (by omega) (by omega)
  have s5 := cut_str b 13 17 13 17 rfl rfl (by omega) (by omega)
  show Calls Tryz.prog 194 #[.string b] w fun e w' => e = .returned (.agg #[.int .i64 (getI (b.extract 0 1)), .int .i64 (getI (b.extract 1 5)), .int .i64 (getI (b.extract 5 9)), .int .i64 (getI (b.extract 9 13)), .int .i64 (getI (b.extract 13 17))]) ∧ Below w.heap.size w w'
  clear G hb
  generalize getI (b.extract 0 1) = x1 at *
  generalize getI (b.extract 1 5) = x2 at *
  generalize getI (b.extract 5 9) = x3 at *
  generalize getI (b.extract 9 13) = x4 at *
  generalize getI (b.extract 13 17) = x5 at *
  generalize b.extract 0 1 = t1 at *
  generalize b.extract 1 5 = t2 at *
  generalize b.extract 5 9 = t3 at *
  generalize b.extract 9 13 = t4 at *
  generalize b.extract 13 17 = t5 at *
  go_enter Tryz.func194, Tryz.ntmps194
  go_wp2_with fail
  go_region_with (first
    | (go_at_call 167
       (first | (with_reducible refine (G1.out _).mono ?_) | (with_reducible refine (G2.out _).mono ?_) | (with_reducible refine (G3.out _).mono ?_) | (with_reducible refine (G4.out _).mono ?_) | (with_reducible refine (G5.out _).mono ?_))
       rintro e' w2 ⟨rfl, rfl⟩))
  all_goals
    go_wp2
    exact bodyPost_ret (v := .agg #[.int .i64 x1, .int .i64 x2, .int .i64 x3, .int .i64 x4, .int .i64 x5]) (by simp [results, Tryz.results194, go_sem]) rfl ⟨rfl, ((Below.refl _ _).alloc (Nat.le_refl _) _).drew⟩
def entZ : Ent := ⟨0, 0, 0, 0, 0⟩
def egetS (b : ByteArray) : Ent := if enIs b = true then entOf b else entZ
theorem egetS_no {b : ByteArray} (h : enIs b = false) : egetS b = entZ := if_neg (by rw [h]; decide)
theorem egetS_yes {b : ByteArray} (h : enIs b = true) : egetS b = entOf b := if_pos h
theorem eg_no {b : ByteArray} (h : enIs b = false) : Ending.returned (.tuple #[.agg #[.int .i64 0, .int .i64 0, .int .i64 0, .int .i64 0, .int .i64 0], .bool false]) = .returned (.tuple #[(egetS b).val, .bool (enIs b)]) := by rw [h, egetS_no h]; rfl
theorem eg_yes {b : ByteArray} {s : Ent} (hs : entOf b = s) (h : enIs b = true) : Ending.returned (.tuple #[.agg #[.int .i64 s.k, .int .i64 s.l, .int .i64 s.e, .int .i64 s.c, .int .i64 s.v], .bool true]) = .returned (.tuple #[(egetS b).val, .bool (enIs b)]) := by rw [h, egetS_yes h, hs]; rfl
set_option maxRecDepth 100000 in
set_option maxHeartbeats 1000000 in
theorem eget_is (b : ByteArray) (hb : b.size ≤ maxLen) (w : World) : Calls Tryz.prog 185 #[.string b] w fun e w' => e = .returned (.tuple #[(egetS b).val, .bool (enIs b)]) ∧ Below w.heap.size w w' := by
  unfold maxLen at hb
  by_cases h1 : b.size = 32
  · have HN := Lib.hid (numbers_is b h1)
    have HP := Lib.hid (eput_is (entOf b))
    have hn : (b.size : Int) = 32 := by omega
    have HI0 : enIs b = (entOk (entOf b) && decide (eputS (entOf b) = b)) := by
      unfold enIs eputS
      rw [Bool.eq_iff_iff]
      simp only [Bool.and_eq_true, decide_eq_true_eq]
      constructor
      · rintro ⟨_, a2, a3⟩
        exact ⟨a2, by rw [if_pos a2]; exact a3⟩
      · rintro ⟨a2, a3⟩
        exact ⟨h1, a2, by rw [if_pos a2] at a3; exact a3⟩
    have HV := Lib.hid (show (entOf b).val = .agg #[.int .i64 (entOf b).k, .int .i64 (entOf b).l, .int .i64 (entOf b).e, .int .i64 (entOf b).c, .int .i64 (entOf b).v] from rfl)
    clear h1
    generalize hsv : entOf b = s at *
    have HSV := Lib.hid hsv
    clear hsv
    generalize entOk s = ok at *
    generalize eputS s = made at *
    generalize hq : decide (made = b) = same at *
    have hst := str_eqB hq
    clear hq
    have HI := Lib.hid HI0
    clear HI0
    rw [HV.out] at HN HP
    go_enter Tryz.func185, Tryz.ntmps185
    go_wp2_with (first
      | (go_at_call 194
         refine (HN.out _).mono ?_
         rintro e' w1 ⟨rfl, b1⟩
         have R1 := Lib.hid (Row5.laid b1)
         clear b1)
      | (go_at_call 195
         refine (HP.out _).mono ?_
         rintro e' w2 ⟨rfl, b2⟩
         have R2 := Lib.hid (Row5.laid b2)
         clear b2
         obtain ⟨_, c0, c1, c2, c3, c4, f0, f1, f2, f3, f4⟩ := R1.out.1.below R2.out.2
         obtain ⟨_, d0, d1, d2, d3, d4, _, _, _, _, _⟩ := R2.out.1))
    all_goals first
      | (refine bodyPost_ret (results_cell2 rfl rfl ((R1.out.1.below R2.out.2).set5 _ _ _ _ _).loadE rfl) rfl ⟨?_, Row5.kept (below_next R1.out.2 R2.out.2)⟩
         clear HN HP HV hst
         refine eg_no ?_
         rw [HI.out]
         simp_all
         done)
      | (refine bodyPost_ret (results_cell2 rfl rfl ((R1.out.1.below R2.out.2).set5 _ _ _ _ _).loadE rfl) rfl ⟨?_, Row5.kept (below_next R1.out.2 R2.out.2)⟩
         clear HN HP HV hst
         refine eg_yes HSV.out ?_
         rw [HI.out]
         simp_all)
  · have hn : (b.size : Int) < 32 ∨ 32 < (b.size : Int) := by omega
    have HI := Lib.hid (show enIs b = false from decide_eq_false (fun q => h1 q.1))
    clear h1
    rcases hn with hn | hn
    all_goals
      go_enter Tryz.func185, Tryz.ntmps185
      go_wp2
      refine bodyPost_ret (v := .tuple #[.agg #[.int .i64 0, .int .i64 0, .int .i64 0, .int .i64 0, .int .i64 0], .bool false]) (by simp [results, Tryz.results185, go_sem]) rfl ⟨eg_no HI.out, ?_⟩
      exact (Below.refl _ _).alloc (Nat.le_refl _) _
end Go.Proofs.YtbghglkplbnnkaaGreatDoor
-- EntryGroup
namespace Go.Proofs.YtbghglkplbnnkaaGreatDoor
open Go.RowKit
open Go.Proofs.YtbghglkplbnnkaaGreatDoor.Bk

end Go.Proofs.YtbghglkplbnnkaaGreatDoor
-- EntryChanges
namespace Go.Proofs.YtbghglkplbnnkaaGreatDoor
open Go.RowKit
open Go.Proofs.YtbghglkplbnnkaaGreatDoor.Bk

def toChg (e : Ent) : Chg := ⟨e.c, e.v⟩
def fillK (l : List Ent) (k : Nat) : List Chg := (l.take k).map toChg ++ List.replicate (l.length - k) ⟨0, 0⟩
theorem fillK_len (l : List Ent) (k : Nat) (h : k ≤ l.length) : (fillK l k).length = l.length := by simp [fillK]; omega
theorem fillK_next (l : List Ent) (k : Nat) (h : k < l.length) : fillK l (k + 1) = (fillK l k).set k (toChg l[k]) := by
  have e1 : l.length - k = (l.length - (k + 1)) + 1 := by omega
  have e2 : ((l.take k).map toChg).length = k := by simp; omega
  rw [fillK, fillK, e1, List.replicate_succ, List.take_succ_eq_append_getElem h, List.map_append, List.set_append_right _ _ (by omega), e2, Nat.sub_self, List.set_cons_zero, List.append_assoc]
  rfl
theorem fillK_end (l : List Ent) : fillK l l.length = l.map toChg := by simp [fillK]
theorem flat_zero (n : Nat) : flat Chg.cells (List.replicate n ⟨0, 0⟩) = List.replicate (n * 2) (.int .i64 0) := by
  induction n with
  | zero => rfl
  | succ n ih => rw [List.replicate_succ, flat_cons, ih, Nat.add_mul, Nat.one_mul, show n * 2 + 2 = n * 2 + 1 + 1 from rfl, List.replicate_succ, List.replicate_succ]; rfl
theorem make_chgs (u : World) (n : Nat) (hn : n ≤ 2 ^ 40) :
    ∃ w', (Instr.makeSlice 196 (.int .i64 (n : Int)) (.int .i64 (n : Int))).run Tryz.prog u = .ok (.slice (some ⟨u.heap.size, 0, none⟩) n n) w' ∧ Below u.heap.size u w' ∧ w'.ownsRow u.heap.size 200 2 (.slice (some ⟨u.heap.size, 0, none⟩) n n) n (flat Chg.cells (List.replicate n ⟨0, 0⟩)) := by
  obtain ⟨i1, hi, hz0, hz1, hz2⟩ := info_parts chgInfo
  have h := run_make (P := Tryz.prog) u 196 200 i1 _ Tryz.underlying196 hi hz0 .i64 .i64 (n : Int) (n : Int) (by omega) (Int.le_refl _) (by rw [hz2]; omega) (by omega)
  refine ⟨_, by simpa using h, (Below.refl _ _).alloc (Nat.le_refl _) _, by rw [flat_zero]; simp, .inr ⟨u.heap.size, n, _, rfl, Nat.le_refl _, heap_alloc_new u _, Nat.le_refl _, by unfold maxLen; omega, ?_, ?_⟩⟩
  · rw [size_madeCells, hz1]
  · rw [flat_zero, hz1]
    apply List.ext_getElem
    · simp [madeCells]
    · intro j h1 h2
      have : j % 2 = 0 ∨ j % 2 = 1 := by omega
      rcases this with q | q <;> simp [madeCells, Value.cells, q]

set_option maxRecDepth 100000 in
set_option maxHeartbeats 1000000 in
theorem changesOf_is (a : Option Addr) (l : List Ent) (c : Nat) (w : World) (h : LiesAt w a (flat Ent.cells l)) (hl : l.length ≤ 1000) :
    Calls Tryz.prog 170 #[.slice a l.length c] w fun e w' => ∃ v, e = .returned v ∧ Below w.heap.size w w' ∧ w'.ownsRow w.heap.size 200 2 v l.length (flat Chg.cells (l.map toChg)) := by
  obtain ⟨wm, hmk, bm, om⟩ := make_chgs w l.length (by omega)
  have H := Lib.hid h
  have HM := Lib.hid (And.intro bm om)
  clear h bm om
  go_enter Tryz.func170, Tryz.ntmps170
  go_wp2
  clear hmk
  go_loopw [11] (fun i wr => ∃ k : Nat, k ≤ l.length ∧ i = .int .i64 (k : Int) ∧ Below w.heap.size w wr ∧ wr.ownsRow w.heap.size 200 2 (.slice (some ⟨w.heap.size, 0, none⟩) l.length l.length) l.length (flat Chg.cells (fillK l k))) (fun i _ => l.length - (intOf i).toNat)
  case atStart => exact ⟨0, Nat.zero_le _, rfl, HM.out.1, by have := HM.out.2; simpa [fillK] using this⟩
  case round =>
    obtain ⟨k, hk, rfl, hb, ho⟩ := hrel
    by_cases hlt : k < l.length
    · obtain ⟨g1, o1, rfl, hg1, e1⟩ := (H.out.below hb).elem Ent.len (by omega) (List.getElem?_eq_getElem hlt)
      have e1_0 := e1 0 _ rfl
      have e1_1 := e1 1 _ rfl
      have e1_2 := e1 2 _ rfl
      have e1_3 := e1 3 _ rfl
      have e1_4 := e1 4 _ rfl
      rw [Nat.add_zero] at e1_0
      clear e1
      have HN : Hid (flat Chg.cells (fillK l (k + 1)) = ((flat Chg.cells (fillK l k)).set (k * 2) (.int .i64 l[k].c)).set (k * 2 + 1) (.int .i64 l[k].v)) := Lib.hid (by
        rw [fillK_next l k hlt, flat_set Chg.len _ _ (by rw [fillK_len l k hk]; exact hlt)]
        rfl)
      generalize l[k] = x at *
      obtain ⟨x0, hx0, c0, f0⟩ := owns_thereK ho (k := k * 2) (by omega)
      obtain ⟨x1, hx1, c1, f1⟩ := owns_thereK ho (k := k * 2 + 1) (by omega)
      have hwl := (ho.lt w.heap.size rfl).2
      have hne : w.heap.size ≠ wr.heap.size := by omega
      have hi1 : (k : Int) < (l.length : Int) := by omega
      have HR := Lib.hid (And.intro hb ho)
      clear hb ho hx0 hx1
      go_wp2
      refine ⟨⟨k + 1, by omega, by go_num, ((HR.out.1.setCell (p := ⟨w.heap.size, k * 2, none⟩) (Nat.le_refl _) _).setCell (p := ⟨w.heap.size, k * 2 + 1, none⟩) (Nat.le_refl _) _).alloc (by have := HR.out.1.size; simp; omega) _, ?_⟩, by simp [intOf]; omega⟩
      rw [HN.out]
      exact (owns_setK (owns_setK HR.out.2 _ _) _ _).alloc _
    · obtain rfl : k = l.length := by omega
      have HR := Lib.hid (And.intro hb ho)
      have hn : ¬ (l.length : Int) < (l.length : Int) := by omega
      clear hlt hk hb ho
      go_wp2
      go_ret
      refine ⟨_, rfl, HR.out.1, ?_⟩
      rw [← fillK_end]
      exact HR.out.2

def chGo (L : List Ent) : List Ent → Nat → Nat → List Chg → List Chg × Nat
  | [], _, wh, told => (told, wh)
  | e :: r, i, wh, told =>
    if e.k = 2 ∧ e.c = (i : Int) - (wh : Int) then chGo L r (i + 1) (i + 1) (told ++ ((L.take i).drop wh).map toChg)
    else if e.k = 1 then chGo L r (i + 1) wh told
    else (told, wh)
def changesL (L : List Ent) : List Chg × Nat := chGo L L 0 0 []
theorem chGo_at (L : List Ent) (i wh : Nat) (told : List Chg) (h : i < L.length) : chGo L (L.drop i) i wh told =
    if L[i].k = 2 ∧ L[i].c = (i : Int) - (wh : Int) then chGo L (L.drop (i + 1)) (i + 1) (i + 1) (told ++ ((L.take i).drop wh).map toChg)
    else if L[i].k = 1 then chGo L (L.drop (i + 1)) (i + 1) wh told
    else (told, wh) := by
  rw [List.drop_eq_getElem_cons h, chGo]

set_option maxRecDepth 100000 in
set_option maxHeartbeats 2000000 in
theorem changes_is (a : Option Addr) (l : List Ent) (c : Nat) (w : World) (h : LiesAt w a (flat Ent.cells l)) (hl : l.length ≤ 1000) (hc : l.length ≤ c) (R : List Chg) (n : Nat) (hR : changesL l = (R, n)) :
    Calls Tryz.prog 156 #[.slice a l.length c] w fun e w' => ∃ v, e = .returned (.tuple #[v, .int .i64 (n : Int)]) ∧ Below w.heap.size w w' ∧ w'.ownsRow w.heap.size 200 2 v R.length (flat Chg.cells R) := by
  obtain ⟨i0, hi, hz0, hz1, hz2⟩ := info_parts chgInfo
  have HI := Lib.hid (And.intro hi (And.intro hz0 (And.intro hz1 hz2)))
  clear hi hz0 hz1 hz2
  have H := Lib.hid h
  have HS := Lib.hid (show chGo l (l.drop 0) 0 0 [] = (R, n) from hR)
  clear h hR
  go_enter Tryz.func156, Tryz.ntmps156
  go_wp2
  go_loopw [4, 5, 10] (fun v x i wr => ∃ (k wh : Nat) (T : List Chg), k ≤ l.length ∧ wh ≤ k ∧ i = .int .i64 (k : Int) ∧ x = .int .i64 (wh : Int) ∧ Below w.heap.size w wr ∧ Hid (wr.ownsRow w.heap.size 200 2 v T.length (flat Chg.cells T) ∧ T.length ≤ wh) ∧ Hid (chGo l (l.drop k) k wh T = (R, n))) (fun _ _ i _ => l.length - (intOf i).toNat)
  case atStart => exact ⟨0, 0, [], Nat.zero_le _, Nat.le_refl _, rfl, rfl, Below.refl _ _, Lib.hid ⟨World.ownsRow_nil _ _ _ _, Nat.le_refl _⟩, HS⟩
  case round =>
    obtain ⟨k, wh, T, hk, hwh, rfl, rfl, hb, HT, HG⟩ := hrel
    have hki : (k : Int) ≤ 1000 := by omega
    have hwi : (wh : Int) ≤ (k : Int) := by omega
    by_cases hlt : k < l.length
    · obtain ⟨g1, o1, rfl, hg1, e1⟩ := (H.out.below hb).elem Ent.len (by omega) (List.getElem?_eq_getElem hlt)
      have e1_0 := e1 0 _ rfl
      have e1_1 := e1 1 _ rfl
      have e1_2 := e1 2 _ rfl
      have e1_3 := e1 3 _ rfl
      have e1_4 := e1 4 _ rfl
      rw [Nat.add_zero] at e1_0
      clear e1
      have HN := Lib.hid (chGo_at l k wh T hlt)
      generalize l[k] = x at *
      obtain ⟨xk, xl, xe, xc, xv⟩ := x
      simp only at e1_0 e1_1 e1_2 e1_3 e1_4
      have hi1 : (k : Int) < (l.length : Int) := by omega
      have HB := Lib.hid hb
      clear hb
      by_cases hk2 : xk = 2
      · subst hk2
        by_cases hq : xc = (k : Int) - (wh : Int)
        · subst hq
          have HE : Hid (chGo l (l.drop (k + 1)) (k + 1) (k + 1) (T ++ ((l.take k).drop wh).map toChg) = (R, n)) := Lib.hid (by
            have := HN.out
            rw [if_pos ⟨rfl, rfl⟩] at this
            rw [← this]; exact HG.out)
          have hkc : (k : Int) ≤ (c : Int) := by omega
          have hlenS : ((l.take k).drop wh).length = k - wh := by simp; omega
          have HC := Lib.hid (fun z (q : Below wr.heap.size wr z) => changesOf_is (some ⟨g1, o1 + wh * 5, none⟩) ((l.take k).drop wh) (c - wh) z (((H.out.below HB.out).sub Ent.len wh k).below q) (by omega))
          rw [hlenS] at HC
          generalize (l.take k).drop wh = S at *
          have HL := Lib.hid hlenS
          have hTl := HT.out.2
          have hsz := HB.out.size
          clear HN HG hlenS
          go_wp2_with (first
            | (go_at_call 170
               refine (HC.out _ ((Below.refl wr.heap.size wr).alloc (Nat.le_refl _) _)).mono ?_
               rintro e' w5 ⟨v5, rfl, b5, o5⟩
               obtain ⟨a5, c5, rfl, l5, _⟩ := own_formK o5
               have b5' : Below wr.heap.size wr w5 := ((Below.refl _ _).alloc (Nat.le_refl _) _).trans (b5.mono (by simp))
               have hs5 := b5'.size
               have H5 := Lib.hid (And.intro b5' l5)
               clear b5 o5 l5 b5')
            | (refine wpList_append_row rfl (.tmp 31) (.tmp 36) 196 rfl w.heap.size 200 i0 _ 2 16 Tryz.underlying196 HI.out.1 HI.out.2.1 HI.out.2.2.1 HI.out.2.2.2 ?ba1 ?ba2 u4 T.length (flat Chg.cells T) rfl ?ba4 a5 (k - wh) c5 (flat Chg.cells (S.map toChg)) rfl ?ba6 ?ba7 ?ba8 ?bb1 ?bb2 ?bb3 ?bb5
               case ba1 => rfl
               case ba2 => omega
               case ba4 => exact own_belowK HT.out.1 H5.out.1
               case ba6 => rw [flat_len Chg.len, List.length_map, HL.out]
               case ba7 => exact H5.out.2
               case ba8 => exact flat_all Chg.one _
               case bb1 => unfold maxLen; omega
               case bb2 => omega
               case bb3 => omega
               intro v6 w6 hown6 hgr6
               have H6 := Lib.hid (And.intro hown6 hgr6)
               clear hown6 hgr6))
          refine ⟨⟨k + 1, k + 1, T ++ S.map toChg, by omega, by omega, by go_num, by go_num, (HB.out.trans (H5.out.1.mono hsz)).grown H6.out.2 (by omega) (fun b hb => (HT.out.1.lt b hb).1), Lib.hid ⟨?_, ?_⟩, HE⟩, by simp [intOf]; omega⟩
          · rw [List.length_append, List.length_map, HL.out, flat_app]
            exact H6.out.1
          · rw [List.length_append, List.length_map, HL.out]; omega
        · have hqf : (xc == (k : Int) - (wh : Int)) = false := by simpa using hq
          have HE : Hid ((T, wh) = (R, n)) := Lib.hid (by
            have := HN.out
            rw [if_neg (fun h => hq h.2), if_neg (by show ¬ (2 : Int) = 1; omega)] at this
            rw [← this]; exact HG.out)
          clear HN HG
          go_wp2
          go_ret2
          obtain ⟨rfl, rfl⟩ : T = R ∧ wh = n := by simpa using HE.out
          have ba := (Below.refl wr.heap.size wr).alloc (Nat.le_refl _) (.cells #[.int .i64 2, .int .i64 xl, .int .i64 xe, .int .i64 xc, .int .i64 xv] 262)
          exact ⟨_, rfl, below_next HB.out ba, own_belowK HT.out.1 ba⟩
      · have hk2f : (xk == 2) = false := by simpa using hk2
        by_cases hk1 : xk = 1
        · subst hk1
          have HE : Hid (chGo l (l.drop (k + 1)) (k + 1) wh T = (R, n)) := Lib.hid (by
            have := HN.out
            rw [if_neg (fun h => hk2 h.1), if_pos rfl] at this
            rw [← this]; exact HG.out)
          clear HN HG
          go_wp2
          have ba := (Below.refl wr.heap.size wr).alloc (Nat.le_refl _) (.cells #[.int .i64 1, .int .i64 xl, .int .i64 xe, .int .i64 xc, .int .i64 xv] 262)
          exact ⟨⟨k + 1, wh, T, by omega, by omega, by go_num, by go_num, below_next HB.out ba, Lib.hid ⟨own_belowK HT.out.1 ba, HT.out.2⟩, HE⟩, by simp [intOf]; omega⟩
        · have hk1f : (xk == 1) = false := by simpa using hk1
          have HE : Hid ((T, wh) = (R, n)) := Lib.hid (by
            have := HN.out
            rw [if_neg (fun h => hk2 h.1), if_neg hk1] at this
            rw [← this]; exact HG.out)
          clear HN HG
          go_wp2
          go_ret2
          obtain ⟨rfl, rfl⟩ : T = R ∧ wh = n := by simpa using HE.out
          have ba := (Below.refl wr.heap.size wr).alloc (Nat.le_refl _) (.cells #[.int .i64 xk, .int .i64 xl, .int .i64 xe, .int .i64 xc, .int .i64 xv] 262)
          exact ⟨_, rfl, below_next HB.out ba, own_belowK HT.out.1 ba⟩
    · obtain rfl : k = l.length := by omega
      have HE : Hid ((T, wh) = (R, n)) := Lib.hid (by
        have := HG.out
        rwa [List.drop_length, chGo] at this)
      have HB := Lib.hid hb
      have hn : ¬ (l.length : Int) < (l.length : Int) := by omega
      clear hlt hk hb
      go_wp2
      go_ret2
      obtain ⟨rfl, rfl⟩ : T = R ∧ wh = n := by simpa using HE.out
      exact ⟨_, rfl, HB.out, HT.out.1⟩
end Go.Proofs.YtbghglkplbnnkaaGreatDoor
-- EntryRun
namespace Go.Proofs.YtbghglkplbnnkaaGreatDoor
open Go.RowKit
open Go.Proofs.YtbghglkplbnnkaaGreatDoor.Bk

def chR : List Ent → Nat → Nat → List Chg → List Chg → List Chg × Nat
  | [], _, wh, _, told => (told, wh)
  | e :: r, i, wh, op, told =>
    if e.k = 2 ∧ e.c = (op.length : Int) then chR r (i + 1) (i + 1) [] (told ++ op)
    else if e.k = 1 then chR r (i + 1) wh (op ++ [toChg e]) told
    else (told, wh)
theorem chGo_R (L : List Ent) : ∀ (r : List Ent) (i wh : Nat) (op told : List Chg), L.drop i = r → wh ≤ i → i ≤ L.length → op = ((L.take i).drop wh).map toChg → chGo L r i wh told = chR r i wh op told
  | [], _, _, _, _, _, _, _, _ => rfl
  | e :: r, i, wh, op, told, hr, hw, hi, ho => by
    have hlt : i < L.length := by
      rcases Nat.lt_or_ge i L.length with q | q
      · exact q
      · rw [List.drop_eq_nil_of_le q] at hr; cases hr
    have hd := List.drop_eq_getElem_cons hlt
    rw [hr] at hd
    obtain ⟨rfl, hd2⟩ := List.cons.inj hd
    have hl : (op.length : Int) = (i : Int) - (wh : Int) := by rw [ho]; simp; omega
    rw [chGo, chR, hl]
    by_cases h1 : L[i].k = 2 ∧ L[i].c = (i : Int) - (wh : Int)
    · rw [if_pos h1, if_pos h1, chGo_R L r (i + 1) (i + 1) [] _ hd2.symm (Nat.le_refl _) hlt (by rw [List.drop_eq_nil_of_le (by simp; omega)]; rfl), ho]
    · rw [if_neg h1, if_neg h1]
      by_cases h2 : L[i].k = 1
      · rw [if_pos h2, if_pos h2]
        refine chGo_R L r (i + 1) wh _ told hd2.symm (by omega) hlt ?_
        rw [List.take_succ_eq_append_getElem hlt, List.drop_append_of_le_length (by simp; omega), List.map_append, ho]
        rfl
      · rw [if_neg h2, if_neg h2]
theorem changesL_R (L : List Ent) : changesL L = chR L 0 0 [] [] := chGo_R L L 0 0 [] [] rfl (Nat.le_refl _) (Nat.zero_le _) rfl
end Go.Proofs.YtbghglkplbnnkaaGreatDoor
