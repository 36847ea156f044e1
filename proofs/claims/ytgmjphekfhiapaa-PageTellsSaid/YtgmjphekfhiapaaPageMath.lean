/- Package page: plain facts: sectors and bytes, numbers and bytes. -/
import Derived.Test.YtgmjphekfhiapaaPageNum
namespace Go.Proofs.Ytgmjphekfhiapaa
open Go.RowKit
open Go.Proofs.Ytgmjphekfhiapaa.Bk

theorem ext_list (b : ByteArray) (i j : Nat) : (b.extract i j).data.toList = (b.data.toList.drop i).take (j - i) := by
  simp [ByteArray.data_extract, Array.toList_extract, List.extract_eq_take_drop]
def joinB (l : List ByteArray) : ByteArray := l.foldr (· ++ ·) ByteArray.empty
theorem joinB_list (l : List ByteArray) : (joinB l).data.toList = (l.map (·.data.toList)).flatten := by
  induction l with
  | nil => rfl
  | cons x l ih => rw [show joinB (x :: l) = x ++ joinB l from rfl, ba_append, ih]; rfl
theorem joinB_size (l : List ByteArray) (h : l.any outT = false) : (joinB l).size = 32 * l.length := by
  induction l with
  | nil => rfl
  | cons x l ih =>
    rw [List.any_cons, Bool.or_eq_false_iff] at h
    have hx : x.size = 32 := Decidable.not_not.1 (of_decide_eq_false h.1)
    rw [show joinB (x :: l) = x ++ joinB l from rfl, ByteArray.size_append, ih h.2, hx, List.length_cons]
    omega
theorem three {α : Type} {l : List α} (h : l.length = 3) : ∃ x y z, l = [x, y, z] := by
  match l, h with
  | [x, y, z], _ => exact ⟨x, y, z, rfl⟩
theorem part_list (s : ByteArray) (k : Nat) : (part s k).data.toList = (s.data.toList.drop (k * 32)).take 32 := by
  rw [part, ext_list, show (k + 1) * 32 - k * 32 = 32 by omega]
theorem parts_join (l : List ByteArray) (h3 : l.length = 3) (h : l.any outT = false) : parts (joinB l) = l := by
  obtain ⟨x, y, z, rfl⟩ := three h3
  simp only [List.any_cons, List.any_nil, Bool.or_eq_false_iff] at h
  have hx : x.data.toList.length = 32 := by rw [ba_len]; exact Decidable.not_not.1 (of_decide_eq_false h.1)
  have hy : y.data.toList.length = 32 := by rw [ba_len]; exact Decidable.not_not.1 (of_decide_eq_false h.2.1)
  have hz : z.data.toList.length = 32 := by rw [ba_len]; exact Decidable.not_not.1 (of_decide_eq_false h.2.2.1)
  have e : (joinB [x, y, z]).data.toList = x.data.toList ++ (y.data.toList ++ z.data.toList) := by rw [joinB_list]; simp
  have p0 : part (joinB [x, y, z]) 0 = x := ba_ext (by rw [part_list, e, Nat.zero_mul, List.drop_zero, ← hx, List.take_left'] ; rfl)
  have p1 : part (joinB [x, y, z]) 1 = y := ba_ext (by rw [part_list, e, List.drop_left' (by omega), ← hy, List.take_left']; rfl)
  have p2 : part (joinB [x, y, z]) 2 = z := ba_ext (by
    rw [part_list, e, show 2 * 32 = x.data.toList.length + y.data.toList.length by omega, ← List.append_assoc, List.drop_left' (by rw [List.length_append]), List.take_of_length_le (by omega)])
  rw [parts, p0, p1, p2]
theorem parts_size (s : ByteArray) (hs : s.size = 96) : (parts s).any outT = false := by
  have h : ∀ k, k < 3 → outT (part s k) = false := fun k hk => decide_eq_false (Decidable.not_not.2 (by rw [part, ByteArray.size_extract]; omega))
  simp [parts, h 0 (by omega), h 1 (by omega), h 2 (by omega)]
theorem join_parts (s : ByteArray) (hs : s.size = 96) : joinB (parts s) = s := by
  apply ba_ext
  have hl : s.data.toList.length = 96 := by rw [ba_len]; exact hs
  rw [joinB_list]
  simp only [parts, List.map_cons, List.map_nil, part_list, List.flatten_cons, List.flatten_nil, List.append_nil, Nat.zero_mul, List.drop_zero, Nat.one_mul]
  rw [List.take_of_length_le (l := List.drop (2 * 32) s.data.toList) (by rw [List.length_drop]; omega),
    show List.drop (2 * 32) s.data.toList = List.drop 32 (List.drop 32 s.data.toList) by rw [List.drop_drop], List.take_append_drop, List.take_append_drop]
theorem parts_eq {s t : ByteArray} (hs : s.size = 96) (ht : t.size = 96) : parts s = parts t ↔ s = t :=
  ⟨fun h => by rw [← join_parts s hs, h, join_parts t ht], fun h => by rw [h]⟩

theorem outI_no {v : Int} (h : outI v = false) : 0 ≤ v ∧ v < 4294967296 := by
  unfold outI at h
  exact of_decide_eq_true (by simpa using h)
theorem putS_of {v : Int} (h : outI v = false) : putS v 4 = putB v 4 := putS_4 v (outI_no h).1 (outI_no h).2
theorem putS_sz {v : Int} (h : outI v = false) : (putS v 4).data.toList.length = 4 := by rw [ba_len, putS_of h, putB_size]
theorem cat_len (l : List Int) (h : l.any outI = false) : (catB l).size = 4 * l.length := by
  induction l with
  | nil => rfl
  | cons x l ih =>
    rw [List.any_cons, Bool.or_eq_false_iff] at h
    have := putS_sz h.1
    rw [ba_len] at this
    rw [catB, ByteArray.size_append, ih h.2, this, List.length_cons]
    omega
theorem cat_at : ∀ (l : List Int), l.any outI = false → ∀ (k : Nat) (hk : k < l.length) (t : ByteArray), numAt (catB l ++ t) k = l[k]
  | [], _, k, hk, _ => absurd hk (Nat.not_lt_zero _)
  | v :: l, h, 0, _, t => by
    rw [List.any_cons, Bool.or_eq_false_iff] at h
    have hl := putS_sz h.1
    have e : (catB (v :: l) ++ t).extract (0 * 4) ((0 + 1) * 4) = putS v 4 := ba_ext (by
      rw [ext_list, ba_append, catB, ba_append, List.append_assoc, Nat.zero_mul, List.drop_zero, show (0 + 1) * 4 - 0 = 4 from rfl, ← hl, List.take_left']; rfl)
    rw [numAt, e, putS_of h.1]
    exact getI_put v 4 (outI_no h.1).1 (outI_no h.1).2 (by omega) (by omega)
  | v :: l, h, k + 1, hk, t => by
    rw [List.any_cons, Bool.or_eq_false_iff] at h
    have hl := putS_sz h.1
    have e : (catB (v :: l) ++ t).extract ((k + 1) * 4) ((k + 1 + 1) * 4) = (catB l ++ t).extract (k * 4) ((k + 1) * 4) := ba_ext (by
      rw [ext_list, ext_list, ba_append, catB, ba_append, List.append_assoc, ba_append, show (k + 1) * 4 = (putS v 4).data.toList.length + k * 4 by omega, List.drop_append, List.drop_of_length_le (by omega), Nat.add_sub_cancel_left, List.nil_append]
      congr 1
      omega)
    rw [numAt, e]
    exact cat_at l h.2 k (by simpa using hk) t
theorem pg_any {no v : Int} {cs : List Int} (h : pgOk no v cs = true) : (no :: v :: cs).any outI = false ∧ cs.length = 16 := by
  obtain ⟨h0, h1, h2, h3, h4⟩ := of_decide_eq_true h
  refine ⟨?_, h3⟩
  have : outI no = false := by unfold outI; rw [decide_eq_true (by omega)]; rfl
  simp [this, h2, h4]
theorem pg_split (no v : Int) (cs : List Int) : ∃ t, pgB no v cs = catB (no :: v :: cs) ++ t := ⟨zeros (96 - 4 - (catB (no :: v :: cs)).size) ++ putS (sumI (sealBody (catB (no :: v :: cs)) 96).data.toList) 4, by
  rw [pgB, sealB, ← ByteArray.append_assoc]; rfl⟩
theorem pg_num {no v : Int} {cs : List Int} (h : pgOk no v cs = true) : numAt (pgB no v cs) 0 = no ∧ numAt (pgB no v cs) 1 = v ∧ nums (pgB no v cs) = cs := by
  obtain ⟨ha, h16⟩ := pg_any h
  obtain ⟨t, ht⟩ := pg_split no v cs
  rw [ht]
  refine ⟨cat_at _ ha 0 (by simp) t, cat_at _ ha 1 (by simp) t, ?_⟩
  apply List.ext_getElem
  · rw [nums_len, h16]
  · intro i h1 h2
    have := cat_at _ ha (i + 2) (by simp; omega) t
    simpa [nums] using this
/-- Two pages are the same bytes just if they are the same in all. -/
theorem pg_two {no v m u : Int} {cs ds : List Int} (h : pgOk no v cs = true) (h' : pgOk m u ds = true) : pgB no v cs = pgB m u ds ↔ (no = m ∧ v = u ∧ cs = ds) := by
  constructor
  · intro e
    obtain ⟨a1, a2, a3⟩ := pg_num h
    obtain ⟨b1, b2, b3⟩ := pg_num h'
    rw [e] at a1 a2 a3
    exact ⟨a1.symm.trans b1, a2.symm.trans b2, a3.symm.trans b3⟩
  · rintro ⟨rfl, rfl, rfl⟩
    rfl

/-- What sectors tell. -/
def pgIs (l : List ByteArray) : Bool := decide (l.length = 3 ∧ l.any outT = false ∧ pgOk (numAt (joinB l) 0) (numAt (joinB l) 1) (nums (joinB l)) = true ∧ pgB (numAt (joinB l) 0) (numAt (joinB l) 1) (nums (joinB l)) = joinB l)
def getN (l : List ByteArray) : Int := if pgIs l = true then numAt (joinB l) 0 else 0
def getV (l : List ByteArray) : Int := if pgIs l = true then numAt (joinB l) 1 else 0
def getC (l : List ByteArray) : List Int := if pgIs l = true then nums (joinB l) else []
theorem get_no {l : List ByteArray} (h : pgIs l = false) : getN l = 0 ∧ getV l = 0 ∧ getC l = [] := by
  have : ¬ pgIs l = true := by rw [h]; decide
  exact ⟨if_neg this, if_neg this, if_neg this⟩
theorem get_yes {l : List ByteArray} (h : pgIs l = true) : getN l = numAt (joinB l) 0 ∧ getV l = numAt (joinB l) 1 ∧ getC l = nums (joinB l) := ⟨if_pos h, if_pos h, if_pos h⟩
/-- A page that was put is told as it is. -/
theorem get_put {no v : Int} {cs : List Int} (h : pgOk no v cs = true) : pgIs (pgL no v cs) = true ∧ getN (pgL no v cs) = no ∧ getV (pgL no v cs) = v ∧ getC (pgL no v cs) = cs := by
  have h16 := (pg_any h).2
  have hs := pgB_size no v cs h16
  obtain ⟨a1, a2, a3⟩ := pg_num h
  have e : joinB (pgL no v cs) = pgB no v cs := by rw [pgL_yes h, join_parts _ hs]
  have hi : pgIs (pgL no v cs) = true := by
    refine decide_eq_true ?_
    rw [e, a1, a2, a3]
    exact ⟨by rw [pgL_yes h]; rfl, by rw [pgL_yes h]; exact parts_size _ hs, h, rfl⟩
  obtain ⟨g1, g2, g3⟩ := get_yes hi
  rw [e] at g1 g2 g3
  exact ⟨hi, g1.trans a1, g2.trans a2, g3.trans a3⟩
theorem is_opens {l : List ByteArray} (h : pgIs l = true) : opens (joinB l) = true := by
  obtain ⟨_, _, _, h4⟩ := of_decide_eq_true h
  rw [← h4]
  exact (sealB_opens _ _).1
theorem body_num (s : ByteArray) (hs : s.size = 96) (k : Nat) (hk : k < 18) : (bodyOf s).extract (k * 4) ((k + 1) * 4) = s.extract (k * 4) ((k + 1) * 4) := ba_ext (by
  rw [ext_list, ext_list, body_list, List.drop_take, List.take_take]
  congr 1
  omega)
end Go.Proofs.Ytgmjphekfhiapaa
