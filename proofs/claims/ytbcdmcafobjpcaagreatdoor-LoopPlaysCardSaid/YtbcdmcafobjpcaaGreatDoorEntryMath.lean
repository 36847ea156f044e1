/- Entries: plain facts: what a sector says, and what it doesn't. -/
import Derived.Test.YtbcdmcafobjpcaaGreatDoorSealMath
import Derived.Test.YtbcdmcafobjpcaaGreatDoorWide
namespace Go.Proofs.YtbcdmcafobjpcaaGreatDoor
open Go.RowKit

def numI (x : Int) : Bool := decide (0 ≤ x ∧ x < 4294967296)
def entOk (s : Ent) : Bool := decide (s.k = 1 ∨ (s.k = 2 ∧ s.v = 0)) && numI s.l && numI s.e && numI s.c && numI s.v
def enBody (s : Ent) : ByteArray := putS s.k 1 ++ putS s.l 4 ++ putS s.e 4 ++ putS s.c 4 ++ putS s.v 4
def enB (s : Ent) : ByteArray := sealB (enBody s) 32
theorem putE_max (v n : Int) (h : 0 ≤ n) : ((putS v n).size : Int) ≤ n := by
  unfold putS
  split
  · rw [putB_size]; omega
  · exact h
theorem enBody_le (s : Ent) : (enBody s).size ≤ 17 := by
  have h1 := putE_max s.k 1 (by omega)
  have h2 := putE_max s.l 4 (by omega)
  have h3 := putE_max s.e 4 (by omega)
  have h4 := putE_max s.c 4 (by omega)
  have h5 := putE_max s.v 4 (by omega)
  unfold enBody
  simp only [ByteArray.size_append]
  omega
theorem enB_is (s : Ent) : sealS (enBody s) 32 = enB s := if_pos ⟨by omega, by omega, by have := enBody_le s; omega⟩
theorem enB_size (s : Ent) : (enB s).size = 32 := sealB_size _ _ (by omega) (by have := enBody_le s; omega)

/-- What bytes say, wherever they come from. -/
def entOf (t : ByteArray) : Ent := ⟨getI (t.extract 0 1), getI (t.extract 1 5), getI (t.extract 5 9), getI (t.extract 9 13), getI (t.extract 13 17)⟩
def enIs (b : ByteArray) : Bool := decide (b.size = 32 ∧ entOk (entOf b) = true ∧ enB (entOf b) = b)
theorem ex_list (b : ByteArray) (i j : Nat) : (b.extract i j).data.toList = (b.data.toList.drop i).take (j - i) := by
  simp [ByteArray.data_extract, Array.toList_extract, List.extract_eq_take_drop]
theorem putE_list {v N : Int} {n : Nat} (hN : N = n) (h0 : 0 ≤ v) (h1 : v < 4294967296) (hn : 1 ≤ n) (hn8 : n ≤ 8) : (putS v N).data.toList.length = n ∧ numL (putS v N).data.toList = v % 256 ^ n := by
  subst hN
  have : putS v n = putB v n := if_pos ⟨h0, h1, by omega, by omega⟩
  rw [this]
  exact ⟨by rw [ba_len, putB_size], by rw [putB, strOf_list, numL_put v h0]⟩
theorem midE_list {a x b : List UInt8} {i n : Nat} (hi : a.length = i) (hx : x.length = n) : ((a ++ (x ++ b)).drop i).take n = x := by
  rw [List.drop_left' hi, ← hx, List.take_left']
  rfl
theorem getE_list {b : ByteArray} {i j : Nat} {x : List UInt8} (h : (b.extract i j).data.toList = x) (hx : x.length ≤ 7) : getI (b.extract i j) = numL x := by
  rw [getI, h, List.take_of_length_le hx]
theorem num_of {v : Int} (h : numI v = true) : 0 ≤ v ∧ v < 4294967296 := of_decide_eq_true h
theorem ent_of {s : Ent} (h : entOk s = true) : (s.k = 1 ∨ (s.k = 2 ∧ s.v = 0)) ∧ (0 ≤ s.l ∧ s.l < 4294967296) ∧ (0 ≤ s.e ∧ s.e < 4294967296) ∧ (0 ≤ s.c ∧ s.c < 4294967296) ∧ (0 ≤ s.v ∧ s.v < 4294967296) := by
  simp only [entOk, Bool.and_eq_true, decide_eq_true_eq] at h
  obtain ⟨⟨⟨⟨h1, h2⟩, h3⟩, h4⟩, h5⟩ := h
  exact ⟨h1, num_of h2, num_of h3, num_of h4, num_of h5⟩
/-- What was put is what is told. -/
theorem ent_back {s : Ent} (h : entOk s = true) : entOf (enB s) = s := by
  obtain ⟨hk, ⟨l0, l1⟩, ⟨e0, e1⟩, ⟨c0, c1⟩, ⟨v0, v1⟩⟩ := ent_of h
  obtain ⟨k, l, e, c, v⟩ := s
  simp only at hk l0 l1 e0 e1 c0 c1 v0 v1
  obtain ⟨lk, nk⟩ := putE_list (v := k) (N := 1) (n := 1) rfl (by omega) (by omega) (by omega) (by omega)
  obtain ⟨ll, nl⟩ := putE_list (v := l) (N := 4) (n := 4) rfl l0 l1 (by omega) (by omega)
  obtain ⟨le, ne⟩ := putE_list (v := e) (N := 4) (n := 4) rfl e0 e1 (by omega) (by omega)
  obtain ⟨lc, nc⟩ := putE_list (v := c) (N := 4) (n := 4) rfl c0 c1 (by omega) (by omega)
  obtain ⟨lv, nv⟩ := putE_list (v := v) (N := 4) (n := 4) rfl v0 v1 (by omega) (by omega)
  obtain ⟨T, hT⟩ : ∃ T : ByteArray, enB ⟨k, l, e, c, v⟩ = enBody ⟨k, l, e, c, v⟩ ++ T := ⟨zeros (32 - 4 - (enBody ⟨k, l, e, c, v⟩).size) ++ putS (sumI (sealBody (enBody ⟨k, l, e, c, v⟩) 32).data.toList) 4, by
    rw [enB, sealB, ← ByteArray.append_assoc]; rfl⟩
  have hl : (enB ⟨k, l, e, c, v⟩).data.toList = [] ++ ((putS k 1).data.toList ++ ((putS l 4).data.toList ++ ((putS e 4).data.toList ++ ((putS c 4).data.toList ++ ((putS v 4).data.toList ++ T.data.toList))))) := by
    rw [hT]
    simp only [enBody, ba_append, List.append_assoc, List.nil_append]
  have x1 : ((enB ⟨k, l, e, c, v⟩).extract 0 1).data.toList = (putS k 1).data.toList := by
    rw [ex_list, hl]
    exact midE_list rfl lk
  have x2 : ((enB ⟨k, l, e, c, v⟩).extract 1 5).data.toList = (putS l 4).data.toList := by
    rw [ex_list, hl, ← List.append_assoc]
    exact midE_list (by simp only [List.length_append, List.length_nil]; omega) ll
  have x3 : ((enB ⟨k, l, e, c, v⟩).extract 5 9).data.toList = (putS e 4).data.toList := by
    rw [ex_list, hl, ← List.append_assoc, ← List.append_assoc]
    exact midE_list (by simp only [List.length_append, List.length_nil]; omega) le
  have x4 : ((enB ⟨k, l, e, c, v⟩).extract 9 13).data.toList = (putS c 4).data.toList := by
    rw [ex_list, hl, ← List.append_assoc, ← List.append_assoc, ← List.append_assoc]
    exact midE_list (by simp only [List.length_append, List.length_nil]; omega) lc
  have x5 : ((enB ⟨k, l, e, c, v⟩).extract 13 17).data.toList = (putS v 4).data.toList := by
    rw [ex_list, hl, ← List.append_assoc, ← List.append_assoc, ← List.append_assoc, ← List.append_assoc]
    exact midE_list (by simp only [List.length_append, List.length_nil]; omega) lv
  rw [entOf, getE_list x1 (by omega), getE_list x2 (by omega), getE_list x3 (by omega), getE_list x4 (by omega), getE_list x5 (by omega), nk, nl, ne, nc, nv,
    Int.emod_eq_of_lt (by omega) (by omega), Int.emod_eq_of_lt l0 (by omega), Int.emod_eq_of_lt e0 (by omega), Int.emod_eq_of_lt c0 (by omega), Int.emod_eq_of_lt v0 (by omega)]
theorem en_put {s : Ent} (h : entOk s = true) : enIs (enB s) = true ∧ entOf (enB s) = s := by
  have e := ent_back h
  exact ⟨decide_eq_true ⟨enB_size s, by rw [e]; exact h, by rw [e]⟩, e⟩
/-- Two entries have the same sector just if they are the same. -/
theorem en_two {s t : Ent} (hs : entOk s = true) (ht : entOk t = true) : enB s = enB t ↔ s = t := by
  constructor
  · intro e
    rw [← ent_back hs, e, ent_back ht]
  · intro e; rw [e]
theorem en_opens {b : ByteArray} (h : enIs b = true) : opens b = true := by
  obtain ⟨_, _, h3⟩ := of_decide_eq_true h
  rw [← h3]
  exact (sealB_opens _ _).1
theorem en_body (b : ByteArray) (hb : b.size = 32) (i j : Nat) (hj : j ≤ 28) : (bodyOf b).extract i j = b.extract i j := ba_ext (by
  rw [ex_list, ex_list, body_list, List.drop_take, List.take_take]
  congr 1
  omega)
theorem ent_body (b : ByteArray) (hb : b.size = 32) : entOf (bodyOf b) = entOf b := by
  simp only [entOf, en_body b hb _ _ (show 1 ≤ 28 by omega), en_body b hb _ _ (show 5 ≤ 28 by omega), en_body b hb _ _ (show 9 ≤ 28 by omega), en_body b hb _ _ (show 13 ≤ 28 by omega), en_body b hb _ _ (show 17 ≤ 28 by omega)]
/-- One byte turned: it is none. -/
theorem en_turned {s : Ent} (k : Nat) (hk : k < (enB s).size) (c : UInt8) (hc : c ≠ (enB s)[k]) (b : ByteArray) (hb : b.data.toList = (enB s).data.toList.set k c) : enIs b = false := by
  cases h : enIs b
  · rfl
  · have := en_opens h
    rw [turned_not (enB s) (sealB_opens _ _).1 k hk c hc b hb] at this
    cases this
end Go.Proofs.YtbcdmcafobjpcaaGreatDoor
