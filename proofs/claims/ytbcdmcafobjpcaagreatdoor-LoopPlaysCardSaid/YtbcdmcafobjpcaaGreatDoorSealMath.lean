/- What is sealed is opened; one byte turned it is not. Plain lemmas on lists and strings. -/
import Derived.Test.YtbcdmcafobjpcaaGreatDoorSealROpen
namespace Go.Proofs.YtbcdmcafobjpcaaGreatDoor
open Go.RowKit

theorem ba_ext {a b : ByteArray} (h : a.data.toList = b.data.toList) : a = b := by
  cases a; cases b; simp at h; simp [h]
theorem ba_append (a b : ByteArray) : (a ++ b).data.toList = a.data.toList ++ b.data.toList := by simp
theorem ba_len (a : ByteArray) : a.data.toList.length = a.size := by simp
theorem body_list (b : ByteArray) : (bodyOf b).data.toList = b.data.toList.take (b.size - 4) := by
  simp [bodyOf, ByteArray.data_extract]
theorem tail_list (b : ByteArray) : (tailOf b).data.toList = b.data.toList.drop (b.size - 4) := by
  simp [tailOf, ByteArray.data_extract]
  rw [List.take_of_length_le (by simp)]
theorem body_append (t s : ByteArray) (h : s.size = 4) : bodyOf (t ++ s) = t := by
  apply ba_ext
  rw [body_list, ba_append, ByteArray.size_append, h, Nat.add_sub_cancel, ← ba_len t, List.take_left']
  rfl
theorem tail_append (t s : ByteArray) (h : s.size = 4) : tailOf (t ++ s) = s := by
  apply ba_ext
  rw [tail_list, ba_append, ByteArray.size_append, h, Nat.add_sub_cancel, ← ba_len t, List.drop_left']
  rfl

theorem ofNat_mod (x : Int) : ((UInt8.ofNat (x % 256).toNat).toNat : Int) = x % 256 := by
  rw [UInt8.toNat_ofNat']
  omega
theorem strOf_list (xs : List Int) : (strOfNums xs).data.toList = xs.map fun n => UInt8.ofNat n.toNat := rfl
theorem getI_short (b : ByteArray) (h : b.size ≤ 7) : getI b = numL b.data.toList := by
  rw [getI, List.take_of_length_le (by rw [ba_len]; exact h)]
theorem mod_stepN (V Z : Nat) : V / 256 % Z * 256 + V % 256 = V % (256 * Z) := by
  rw [Nat.mod_mul]
  generalize V / 256 % Z = q
  omega
theorem mod_step (v : Int) (n : Nat) (hv : 0 ≤ v) : v / 256 % 256 ^ n * 256 + v % 256 = v % (256 * 256 ^ n) := by
  obtain ⟨V, rfl⟩ := Int.eq_ofNat_of_zero_le hv
  have hp : (256 : Int) ^ n = ((256 ^ n : Nat) : Int) := by rw [Int.natCast_pow]; rfl
  rw [hp]
  generalize (256 : Nat) ^ n = Z
  exact congrArg Int.ofNat (mod_stepN V Z)
theorem numL_put (v : Int) (h0 : 0 ≤ v) : ∀ (n : Nat), numL ((putL v n).map fun n => UInt8.ofNat n.toNat) = v % 256 ^ n := by
  have key : ∀ (n : Nat) (v : Int), 0 ≤ v → numL (((List.range n).map fun k => v / 256 ^ k % 256).map fun n => UInt8.ofNat n.toNat) = v % 256 ^ n := by
    intro n
    induction n with
    | zero => intro v _; simp [numL, Int.emod_one]
    | succ n ih =>
      intro v hv
      rw [List.range_succ_eq_map, List.map_cons, List.map_cons, numL_cons, ofNat_mod]
      have e : ((fun k => v / 256 ^ k % 256) ∘ Nat.succ) = fun k : Nat => (v / 256) / 256 ^ k % 256 := by
        funext k
        show v / 256 ^ (k + 1) % 256 = _
        rw [Int.pow_succ, Int.mul_comm, Int.ediv_ediv_of_nonneg (by decide)]
      have e' : List.map (fun k => v / 256 ^ k % 256) (List.map Nat.succ (List.range n)) = (List.range n).map fun k : Nat => (v / 256) / 256 ^ k % 256 := by rw [List.map_map, e]
      rw [e', ih (v / 256) (Int.ediv_nonneg hv (by decide)), Int.pow_zero, Int.ediv_one, Int.pow_succ, Int.mul_comm ((256 : Int) ^ n) 256]
      exact mod_step v n hv
  exact fun n => key n v h0
theorem getI_put (v : Int) (n : Nat) (h0 : 0 ≤ v) (h1 : v < 4294967296) (h4 : 4 ≤ n) (h7 : n ≤ 7) : getI (putB v n) = v := by
  rw [getI_short _ (by rw [putB_size]; exact h7), putB, strOf_list, numL_put v h0 n]
  have : n = 4 ∨ n = 5 ∨ n = 6 ∨ n = 7 := by omega
  refine Int.emod_eq_of_lt h0 (Int.lt_of_lt_of_le h1 ?_)
  rcases this with rfl | rfl | rfl | rfl <;> decide
theorem putS_4 (v : Int) (h0 : 0 ≤ v) (h1 : v < 4294967296) : putS v 4 = putB v 4 := if_pos ⟨h0, h1, by omega, by omega⟩
/-- What has its sum behind it is opened. -/
theorem sum_opens (t : ByteArray) : opens (t ++ putS (sumI t.data.toList) 4) = true ∧ openS (t ++ putS (sumI t.data.toList) 4) = t := by
  have hr := sumI_range t.data.toList
  have hs : (putS (sumI t.data.toList) 4).size = 4 := by rw [putS_4 _ hr.1 hr.2, putB_size]
  have := opens_yes (t ++ putS (sumI t.data.toList) 4) ⟨by rw [ByteArray.size_append, hs]; omega, by
    rw [tail_append _ _ hs, body_append _ _ hs, putS_4 _ hr.1 hr.2, getI_put _ 4 hr.1 hr.2 (by omega) (by omega)]⟩
  rw [body_append _ _ hs] at this
  exact this
theorem sealB_opens (b : ByteArray) (n : Nat) : opens (sealB b n) = true ∧ openS (sealB b n) = sealBody b n := sum_opens _
theorem sealB_size (b : ByteArray) (n : Nat) (h4 : 4 ≤ n) (h : b.size ≤ n - 4) : (sealB b n).size = n := by
  have hr := sumI_range (sealBody b n).data.toList
  rw [sealB, ByteArray.size_append, putS_4 _ hr.1 hr.2, putB_size, sealBody_size b n h]
  omega

theorem numL_inj : ∀ (a b : List UInt8), a.length = b.length → numL a = numL b → a = b
  | [], [], _, _ => rfl
  | [], _ :: _, h, _ => by simp at h
  | _ :: _, [], h, _ => by simp at h
  | x :: a, y :: b, h, e => by
    rw [numL_cons, numL_cons] at e
    have hx := u8_lt x
    have hy := u8_lt y
    have e1 : x.toNat = y.toNat := by omega
    have e2 : numL a = numL b := by omega
    rw [numL_inj a b (by simpa using h) e2, UInt8.toNat_inj.1 e1]
theorem set_split (l : List UInt8) (k : Nat) (h : k < l.length) (c : UInt8) : l.set k c = l.take k ++ c :: l.drop (k + 1) := by
  rw [List.set_eq_take_append_cons_drop, if_pos h]
theorem self_split (l : List UInt8) (k : Nat) (h : k < l.length) : l = l.take k ++ l[k] :: l.drop (k + 1) := by
  rw [← List.drop_eq_getElem_cons h, List.take_append_drop]
theorem sum_set (m : List UInt8) (k : Nat) (hk : k < m.length) (c : UInt8) (h : sumI (m.set k c) = sumI m) : c = m[k] := by
  rw [set_split m k hk c] at h
  exact sumI_turned _ _ (h.trans (congrArg sumI (self_split m k hk)))
theorem num_set (m : List UInt8) (k : Nat) (hk : k < m.length) (c : UInt8) (h : numL (m.set k c) = numL m) : c = m[k] := by
  have e := numL_inj _ _ (by simp) h
  have : (m.set k c)[k]? = m[k]? := by rw [e]
  simpa [hk] using this
/-- One byte turned: it is not opened. -/
theorem turned_not (s : ByteArray) (hs : opens s = true) (k : Nat) (hk : k < s.size) (c : UInt8) (hc : c ≠ s[k]) (s' : ByteArray) (h' : s'.data.toList = s.data.toList.set k c) : opens s' = false := by
  have hsz : s'.size = s.size := by rw [← ba_len, h', List.length_set, ba_len]
  have ho : 4 ≤ s.size ∧ getI (tailOf s) = sumI (bodyOf s).data.toList := of_decide_eq_true hs
  obtain ⟨h4, he⟩ := ho
  have hl : k < s.data.toList.length := by rw [ba_len]; exact hk
  have hck : s.data.toList[k] = s[k] := by simp [ByteArray.getElem_eq_getElem_data]
  refine (opens_no s' ?_).1
  rintro ⟨_, he'⟩
  rw [getI_short _ (by rw [tailOf_size s h4]; omega), tail_list, body_list] at he
  rw [getI_short _ (by rw [tailOf_size s' (by omega)]; omega), tail_list, body_list, hsz, h', List.take_set, List.drop_set] at he'
  by_cases hk4 : k < s.size - 4
  · rw [if_pos hk4, he] at he'
    have hlt : k < (s.data.toList.take (s.size - 4)).length := by rw [List.length_take, ba_len]; omega
    have := sum_set _ k hlt c he'.symm
    rw [List.getElem_take, hck] at this
    exact hc this
  · rw [if_neg hk4, List.set_eq_of_length_le (l := List.take (s.size - 4) s.data.toList) (by rw [List.length_take]; omega), ← he] at he'
    have hlt : k - (s.size - 4) < (s.data.toList.drop (s.size - 4)).length := by rw [List.length_drop, ba_len]; omega
    have := num_set _ _ hlt c he'
    rw [List.getElem_drop] at this
    refine hc (this.trans ?_)
    rw [← hck]
    congr 1
    omega
/-- Two texts of one length are sealed alike just if they are the same. -/
theorem sealB_two (a b : ByteArray) (n : Nat) (h : a.size = b.size) : sealB a n = sealB b n ↔ a = b := by
  constructor
  · intro e
    have : sealBody a n = sealBody b n := by rw [← (sealB_opens a n).2, e, (sealB_opens b n).2]
    unfold sealBody at this
    apply ba_ext
    have l := congrArg (fun z : ByteArray => z.data.toList) this
    simp only [ba_append] at l
    exact (List.append_inj l (by rw [ba_len, ba_len, h])).1
  · intro e; rw [e]
/-- A body: the text, then zeros. -/
theorem sealBody_head (b : ByteArray) (n : Nat) : (sealBody b n).extract 0 b.size = b := by
  apply ba_ext
  simp only [sealBody, ByteArray.data_extract, Array.toList_extract, List.extract_eq_take_drop, ba_append, List.drop_zero, Nat.sub_zero]
  rw [← ba_len b, List.take_left']
  rfl
theorem sealBody_zero (b : ByteArray) (n i : Nat) (h : b.size ≤ i) (hi : i < (sealBody b n).size) : (sealBody b n)[i] = 0 := by
  have hl : i < (sealBody b n).data.toList.length := by rw [ba_len]; exact hi
  have : (sealBody b n).data.toList[i] = 0 := by
    simp only [sealBody, ba_append]
    rw [List.getElem_append_right (by rw [ba_len]; exact h)]
    simp [zeros]
  simpa [ByteArray.getElem_eq_getElem_data] using this
end Go.Proofs.YtbcdmcafobjpcaaGreatDoor
