/- Crowns: plain facts: what a sector says, and what it doesn't. -/
import Derived.Test.YtpeidckpcjdfgaaSealMath
namespace Go.Proofs.Ytpeidckpcjdfgaa
open Go.RowKit

/-- What a crown says. -/
structure Sup where
  q : Int
  h : Int
  e : Int
  f : Int
  g : Int
def Sup.val (s : Sup) : Value := .agg #[.int .i64 s.q, .int .i64 s.h, .int .i64 s.e, .int .i64 s.f, .int .i64 s.g]
def mostI (v : Int) : Bool := decide (0 ≤ v ∧ v ≤ 900000000)
def supOk (s : Sup) : Bool := mostI s.q && mostI s.h && mostI s.e && decide (8 ≤ s.f) && decide (s.f ≤ 400) && decide (4 ≤ s.g) && decide (s.g ≤ 300)
def flit : ByteArray := ⟨#[70, 76, 73, 84]⟩
def crBody (s : Sup) : ByteArray := flit ++ putS s.q 4 ++ putS s.h 4 ++ putS s.e 4 ++ putS s.f 2 ++ putS s.g 2
def crB (s : Sup) : ByteArray := sealB (crBody s) 32
theorem putS_max (v n : Int) (h : 0 ≤ n) : ((putS v n).size : Int) ≤ n := by
  unfold putS
  split
  · rw [putB_size]; omega
  · exact h
theorem crBody_le (s : Sup) : (crBody s).size ≤ 20 := by
  have h1 := putS_max s.q 4 (by omega)
  have h2 := putS_max s.h 4 (by omega)
  have h3 := putS_max s.e 4 (by omega)
  have h4 := putS_max s.f 2 (by omega)
  have h5 := putS_max s.g 2 (by omega)
  unfold crBody
  simp only [ByteArray.size_append, show flit.size = 4 from rfl]
  omega
theorem crB_is (s : Sup) : sealS (crBody s) 32 = crB s := if_pos ⟨by omega, by omega, by have := crBody_le s; omega⟩
theorem crB_size (s : Sup) : (crB s).size = 32 := sealB_size _ _ (by omega) (by have := crBody_le s; omega)

/-- What bytes say, wherever they come from. -/
def supOf (t : ByteArray) : Sup := ⟨getI (t.extract 4 8), getI (t.extract 8 12), getI (t.extract 12 16), getI (t.extract 16 18), getI (t.extract 18 20)⟩
def crIs (b : ByteArray) : Bool := decide (b.size = 32 ∧ supOk (supOf b) = true ∧ crB (supOf b) = b)
theorem cr_list (b : ByteArray) (i j : Nat) : (b.extract i j).data.toList = (b.data.toList.drop i).take (j - i) := by
  simp [ByteArray.data_extract, Array.toList_extract, List.extract_eq_take_drop]
theorem put_list {v N : Int} {n : Nat} (hN : N = n) (h0 : 0 ≤ v) (h1 : v < 4294967296) (hn : 1 ≤ n) (hn8 : n ≤ 8) : (putS v N).data.toList.length = n ∧ numL (putS v N).data.toList = v % 256 ^ n := by
  subst hN
  have : putS v n = putB v n := if_pos ⟨h0, h1, by omega, by omega⟩
  rw [this]
  exact ⟨by rw [ba_len, putB_size], by rw [putB, strOf_list, numL_put v h0]⟩
theorem mid_list {a x b : List UInt8} {i n : Nat} (hi : a.length = i) (hx : x.length = n) : ((a ++ (x ++ b)).drop i).take n = x := by
  rw [List.drop_left' hi, ← hx, List.take_left']
  rfl
theorem getI_list {b : ByteArray} {i j : Nat} {x : List UInt8} (h : (b.extract i j).data.toList = x) (hx : x.length ≤ 7) : getI (b.extract i j) = numL x := by
  rw [getI, h, List.take_of_length_le hx]
theorem most_of {v : Int} (h : mostI v = true) : 0 ≤ v ∧ v ≤ 900000000 := of_decide_eq_true h
theorem sup_of {s : Sup} (h : supOk s = true) : (0 ≤ s.q ∧ s.q ≤ 900000000) ∧ (0 ≤ s.h ∧ s.h ≤ 900000000) ∧ (0 ≤ s.e ∧ s.e ≤ 900000000) ∧ (8 ≤ s.f ∧ s.f ≤ 400) ∧ (4 ≤ s.g ∧ s.g ≤ 300) := by
  simp only [supOk, Bool.and_eq_true, decide_eq_true_eq] at h
  obtain ⟨⟨⟨⟨⟨⟨h1, h2⟩, h3⟩, h4⟩, h5⟩, h6⟩, h7⟩ := h
  exact ⟨most_of h1, most_of h2, most_of h3, ⟨h4, h5⟩, ⟨h6, h7⟩⟩
/-- What was put is what is told. -/
theorem sup_back {s : Sup} (h : supOk s = true) : supOf (crB s) = s := by
  obtain ⟨⟨q0, q1⟩, ⟨h0, h1⟩, ⟨e0, e1⟩, ⟨f0, f1⟩, ⟨g0, g1⟩⟩ := sup_of h
  obtain ⟨q, hh, e, f, g⟩ := s
  simp only at q0 q1 h0 h1 e0 e1 f0 f1 g0 g1
  obtain ⟨lq, nq⟩ := put_list (v := q) (N := 4) (n := 4) rfl q0 (by omega) (by omega) (by omega)
  obtain ⟨lh, nh⟩ := put_list (v := hh) (N := 4) (n := 4) rfl h0 (by omega) (by omega) (by omega)
  obtain ⟨le, ne⟩ := put_list (v := e) (N := 4) (n := 4) rfl e0 (by omega) (by omega) (by omega)
  obtain ⟨lf, nf⟩ := put_list (v := f) (N := 2) (n := 2) rfl (by omega) (by omega) (by omega) (by omega)
  obtain ⟨lg, ng⟩ := put_list (v := g) (N := 2) (n := 2) rfl (by omega) (by omega) (by omega) (by omega)
  obtain ⟨T, hT⟩ : ∃ T : ByteArray, crB ⟨q, hh, e, f, g⟩ = crBody ⟨q, hh, e, f, g⟩ ++ T := ⟨zeros (32 - 4 - (crBody ⟨q, hh, e, f, g⟩).size) ++ putS (sumI (sealBody (crBody ⟨q, hh, e, f, g⟩) 32).data.toList) 4, by
    rw [crB, sealB, ← ByteArray.append_assoc]; rfl⟩
  have hl : (crB ⟨q, hh, e, f, g⟩).data.toList = flit.data.toList ++ ((putS q 4).data.toList ++ ((putS hh 4).data.toList ++ ((putS e 4).data.toList ++ ((putS f 2).data.toList ++ ((putS g 2).data.toList ++ T.data.toList))))) := by
    rw [hT]
    simp only [crBody, ba_append, List.append_assoc]
  have l4 : flit.data.toList.length = 4 := rfl
  have x1 : ((crB ⟨q, hh, e, f, g⟩).extract 4 8).data.toList = (putS q 4).data.toList := by
    rw [cr_list, hl]
    exact mid_list l4 lq
  have x2 : ((crB ⟨q, hh, e, f, g⟩).extract 8 12).data.toList = (putS hh 4).data.toList := by
    rw [cr_list, hl, ← List.append_assoc]
    exact mid_list (by rw [List.length_append]; omega) lh
  have x3 : ((crB ⟨q, hh, e, f, g⟩).extract 12 16).data.toList = (putS e 4).data.toList := by
    rw [cr_list, hl, ← List.append_assoc, ← List.append_assoc]
    exact mid_list (by simp only [List.length_append]; omega) le
  have x4 : ((crB ⟨q, hh, e, f, g⟩).extract 16 18).data.toList = (putS f 2).data.toList := by
    rw [cr_list, hl, ← List.append_assoc, ← List.append_assoc, ← List.append_assoc]
    exact mid_list (by simp only [List.length_append]; omega) lf
  have x5 : ((crB ⟨q, hh, e, f, g⟩).extract 18 20).data.toList = (putS g 2).data.toList := by
    rw [cr_list, hl, ← List.append_assoc, ← List.append_assoc, ← List.append_assoc, ← List.append_assoc]
    exact mid_list (by simp only [List.length_append]; omega) lg
  rw [supOf, getI_list x1 (by omega), getI_list x2 (by omega), getI_list x3 (by omega), getI_list x4 (by omega), getI_list x5 (by omega), nq, nh, ne, nf, ng,
    Int.emod_eq_of_lt q0 (by omega), Int.emod_eq_of_lt h0 (by omega), Int.emod_eq_of_lt e0 (by omega), Int.emod_eq_of_lt (by omega) (by omega), Int.emod_eq_of_lt (by omega) (by omega)]
theorem cr_put {s : Sup} (h : supOk s = true) : crIs (crB s) = true ∧ supOf (crB s) = s := by
  have e := sup_back h
  exact ⟨decide_eq_true ⟨crB_size s, by rw [e]; exact h, by rw [e]⟩, e⟩
/-- Two crowns have the same sector just if they are the same. -/
theorem cr_two {s t : Sup} (hs : supOk s = true) (ht : supOk t = true) : crB s = crB t ↔ s = t := by
  constructor
  · intro e
    rw [← sup_back hs, e, sup_back ht]
  · intro e; rw [e]
theorem cr_opens {b : ByteArray} (h : crIs b = true) : opens b = true := by
  obtain ⟨_, _, h3⟩ := of_decide_eq_true h
  rw [← h3]
  exact (sealB_opens _ _).1
theorem cr_body (b : ByteArray) (hb : b.size = 32) (i j : Nat) (hj : j ≤ 28) : (bodyOf b).extract i j = b.extract i j := ba_ext (by
  rw [cr_list, cr_list, body_list, List.drop_take, List.take_take]
  congr 1
  omega)
theorem sup_body (b : ByteArray) (hb : b.size = 32) : supOf (bodyOf b) = supOf b := by
  simp only [supOf, cr_body b hb _ _ (show 8 ≤ 28 by omega), cr_body b hb _ _ (show 12 ≤ 28 by omega), cr_body b hb _ _ (show 16 ≤ 28 by omega), cr_body b hb _ _ (show 18 ≤ 28 by omega), cr_body b hb _ _ (show 20 ≤ 28 by omega)]
/-- One byte turned: it is none. -/
theorem cr_turned {s : Sup} (k : Nat) (hk : k < (crB s).size) (c : UInt8) (hc : c ≠ (crB s)[k]) (b : ByteArray) (hb : b.data.toList = (crB s).data.toList.set k c) : crIs b = false := by
  cases h : crIs b
  · rfl
  · have := cr_opens h
    rw [turned_not (crB s) (sealB_opens _ _).1 k hk c hc b hb] at this
    cases this
end Go.Proofs.Ytpeidckpcjdfgaa
