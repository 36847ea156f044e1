/- Get, the project's and the document's own: the number of bytes. -/
import Derived.Test.YtbcdmcafobjpcaaGreatDoorSealPut
namespace Go.Proofs.YtbcdmcafobjpcaaGreatDoor
open Go.RowKit

/-- The number of a list of bytes, the lowest first. -/
def numL (l : List UInt8) : Int := l.foldr (fun c a => a * 256 + (c.toNat : Int)) 0
/-- What Get tells. -/
def getI (b : ByteArray) : Int := numL (b.data.toList.take 7)
theorem numL_cons (c : UInt8) (l : List UInt8) : numL (c :: l) = numL l * 256 + (c.toNat : Int) := rfl
theorem numL_nonneg : ∀ l : List UInt8, 0 ≤ numL l
  | [] => Int.le_refl _
  | c :: l => by have := numL_nonneg l; rw [numL_cons]; omega
theorem numL_lt : ∀ (l : List UInt8) (k : Nat), l.length ≤ k → numL l < 256 ^ k
  | [], k, _ => Int.pow_pos (by decide)
  | c :: l, 0, h => by simp at h
  | c :: l, k + 1, h => by
    have ih := numL_lt l k (by simpa using h)
    have hc := u8_lt c
    rw [numL_cons, Int.pow_succ]
    generalize (256 : Int) ^ k = z at *
    omega
def getStep (a : Int) (c : UInt8) : Int := bits .or .i64 (wrap64 (a * 256)) (wrap64 (c.toNat : Int))
theorem getStep_is (a : Int) (c : UInt8) (h0 : 0 ≤ a) (h1 : a < 281474976710656) : getStep a c = a * 256 + (c.toNat : Int) := by
  have hc := u8_lt c
  obtain ⟨A, rfl⟩ := Int.eq_ofNat_of_zero_le h0
  have e1 : wrap64 ((A : Int) * 256) = ((A * 256 : Nat) : Int) := by unfold wrap64; omega
  have e2 : wrap64 (c.toNat : Int) = ((c.toNat : Nat) : Int) := by unfold wrap64; omega
  unfold getStep
  rw [e1, e2]
  show IntKind.i64.wrap ((BitVec.ofInt 64 ((A * 256 : Nat) : Int) ||| BitVec.ofInt 64 ((c.toNat : Nat) : Int)).toNat : Int) = _
  rw [BitVec.toNat_or, ofInt_u64 _ (by omega), ofInt_u64 _ (by omega), nat_join 8 (A * 256) c.toNat (by omega) (by omega), IntKind.wrap_i64]
  omega
theorem ret_i64 {a b : Int} (h : a = b) : Ending.returned (.int .i64 a) = .returned (.int .i64 b) := by rw [h]
theorem val_i64 {a b : Int} (h : a = b) : Value.int .i64 a = .int .i64 b := by rw [h]
theorem w64_u8 (c : UInt8) : wrap64 (c.toNat : Int) = (c.toNat : Int) := by have := u8_lt c; unfold wrap64; omega

theorem ba_list (b : ByteArray) (n : Nat) (hn : n ≤ b.size) (l : List UInt8) (hl : l.length = n) (h : ∀ i (hi : i < n), l[i]? = some (b[i]'(by omega))) : b.data.toList.take n = l := by
  apply List.ext_getElem?
  intro i
  rw [List.getElem?_take]
  split
  · rename_i hi
    rw [h i hi]
    have : i < b.data.toList.length := by simpa using (by omega : i < b.size)
    rw [List.getElem?_eq_getElem this]
    rfl
  · rename_i hi
    rw [List.getElem?_eq_none (by omega)]

def getZero (c : UInt8) : Int := bits .or .i64 0 (wrap64 (c.toNat : Int))
theorem getZero_is (c : UInt8) : getZero c = (c.toNat : Int) := by
  have := getStep_is 0 c (by omega) (by omega)
  unfold getZero
  unfold getStep at this
  rw [show wrap64 ((0 : Int) * 256) = 0 by unfold wrap64; omega] at this
  omega
theorem getRun_is : ∀ (l : List UInt8) (z : Int), 0 ≤ z → z < 256 → l.length ≤ 6 →
    l.foldr (fun c a => getStep a c) z = l.foldr (fun c a => a * 256 + (c.toNat : Int)) z ∧ 0 ≤ l.foldr (fun c a => getStep a c) z ∧ l.foldr (fun c a => getStep a c) z < 256 ^ (l.length + 1)
  | [], z, h0, h1, _ => ⟨rfl, h0, by simpa using h1⟩
  | c :: l, z, h0, h1, hl => by
    obtain ⟨e, g0, g1⟩ := getRun_is l z h0 h1 (by simp at hl; omega)
    have hc := u8_lt c
    have hp : (256 : Int) ^ (l.length + 1) ≤ 256 ^ 6 := by
      have : l.length = 0 ∨ l.length = 1 ∨ l.length = 2 ∨ l.length = 3 ∨ l.length = 4 ∨ l.length = 5 := by simp at hl; omega
      rcases this with h | h | h | h | h | h <;> rw [h] <;> decide
    have g2 : l.foldr (fun c a => getStep a c) z < 281474976710656 := by
      have : (256 : Int) ^ 6 = 281474976710656 := by decide
      omega
    have e2 := getStep_is _ c g0 g2
    simp only [List.foldr_cons, List.length_cons]
    rw [e2, ← e]
    refine ⟨rfl, by omega, ?_⟩
    rw [Int.pow_succ]
    generalize (256 : Int) ^ (l.length + 1) = z at *
    omega
theorem getS_2 (x0 x1 : UInt8) : (getStep (x1.toNat : Int) x0) = numL [x0, x1] := by
  have := (getRun_is [x0] (x1.toNat : Int) (by omega) (by have := u8_lt x1; omega) (by simp)).1
  rw [List.foldr_cons, List.foldr_nil, List.foldr_cons, List.foldr_nil] at this
  rw [numL_cons, numL_cons]
  show _ = (((0 : Int) * 256 + (x1.toNat : Int)) * 256 + (x0.toNat : Int))
  rw [Int.zero_mul, Int.zero_add]
  exact this
theorem getS_3 (x0 x1 x2 : UInt8) : (getStep (getStep (x2.toNat : Int) x1) x0) = numL [x0, x1, x2] := by
  have := (getRun_is [x0, x1] (x2.toNat : Int) (by omega) (by have := u8_lt x2; omega) (by simp)).1
  rw [List.foldr_cons, List.foldr_cons, List.foldr_nil, List.foldr_cons, List.foldr_cons, List.foldr_nil] at this
  rw [numL_cons, numL_cons, numL_cons]
  show _ = ((((0 : Int) * 256 + (x2.toNat : Int)) * 256 + (x1.toNat : Int)) * 256 + (x0.toNat : Int))
  rw [Int.zero_mul, Int.zero_add]
  exact this
theorem getS_4 (x0 x1 x2 x3 : UInt8) : (getStep (getStep (getStep (x3.toNat : Int) x2) x1) x0) = numL [x0, x1, x2, x3] := by
  have := (getRun_is [x0, x1, x2] (x3.toNat : Int) (by omega) (by have := u8_lt x3; omega) (by simp)).1
  rw [List.foldr_cons, List.foldr_cons, List.foldr_cons, List.foldr_nil, List.foldr_cons, List.foldr_cons, List.foldr_cons, List.foldr_nil] at this
  rw [numL_cons, numL_cons, numL_cons, numL_cons]
  show _ = (((((0 : Int) * 256 + (x3.toNat : Int)) * 256 + (x2.toNat : Int)) * 256 + (x1.toNat : Int)) * 256 + (x0.toNat : Int))
  rw [Int.zero_mul, Int.zero_add]
  exact this
theorem getS_5 (x0 x1 x2 x3 x4 : UInt8) : (getStep (getStep (getStep (getStep (x4.toNat : Int) x3) x2) x1) x0) = numL [x0, x1, x2, x3, x4] := by
  have := (getRun_is [x0, x1, x2, x3] (x4.toNat : Int) (by omega) (by have := u8_lt x4; omega) (by simp)).1
  rw [List.foldr_cons, List.foldr_cons, List.foldr_cons, List.foldr_cons, List.foldr_nil, List.foldr_cons, List.foldr_cons, List.foldr_cons, List.foldr_cons, List.foldr_nil] at this
  rw [numL_cons, numL_cons, numL_cons, numL_cons, numL_cons]
  show _ = ((((((0 : Int) * 256 + (x4.toNat : Int)) * 256 + (x3.toNat : Int)) * 256 + (x2.toNat : Int)) * 256 + (x1.toNat : Int)) * 256 + (x0.toNat : Int))
  rw [Int.zero_mul, Int.zero_add]
  exact this
theorem getS_6 (x0 x1 x2 x3 x4 x5 : UInt8) : (getStep (getStep (getStep (getStep (getStep (x5.toNat : Int) x4) x3) x2) x1) x0) = numL [x0, x1, x2, x3, x4, x5] := by
  have := (getRun_is [x0, x1, x2, x3, x4] (x5.toNat : Int) (by omega) (by have := u8_lt x5; omega) (by simp)).1
  rw [List.foldr_cons, List.foldr_cons, List.foldr_cons, List.foldr_cons, List.foldr_cons, List.foldr_nil, List.foldr_cons, List.foldr_cons, List.foldr_cons, List.foldr_cons, List.foldr_cons, List.foldr_nil] at this
  rw [numL_cons, numL_cons, numL_cons, numL_cons, numL_cons, numL_cons]
  show _ = (((((((0 : Int) * 256 + (x5.toNat : Int)) * 256 + (x4.toNat : Int)) * 256 + (x3.toNat : Int)) * 256 + (x2.toNat : Int)) * 256 + (x1.toNat : Int)) * 256 + (x0.toNat : Int))
  rw [Int.zero_mul, Int.zero_add]
  exact this
theorem getS_7 (x0 x1 x2 x3 x4 x5 x6 : UInt8) : (getStep (getStep (getStep (getStep (getStep (getStep (x6.toNat : Int) x5) x4) x3) x2) x1) x0) = numL [x0, x1, x2, x3, x4, x5, x6] := by
  have := (getRun_is [x0, x1, x2, x3, x4, x5] (x6.toNat : Int) (by omega) (by have := u8_lt x6; omega) (by simp)).1
  rw [List.foldr_cons, List.foldr_cons, List.foldr_cons, List.foldr_cons, List.foldr_cons, List.foldr_cons, List.foldr_nil, List.foldr_cons, List.foldr_cons, List.foldr_cons, List.foldr_cons, List.foldr_cons, List.foldr_cons, List.foldr_nil] at this
  rw [numL_cons, numL_cons, numL_cons, numL_cons, numL_cons, numL_cons, numL_cons]
  show _ = ((((((((0 : Int) * 256 + (x6.toNat : Int)) * 256 + (x5.toNat : Int)) * 256 + (x4.toNat : Int)) * 256 + (x3.toNat : Int)) * 256 + (x2.toNat : Int)) * 256 + (x1.toNat : Int)) * 256 + (x0.toNat : Int))
  rw [Int.zero_mul, Int.zero_add]
  exact this
theorem getI_1 (b : ByteArray) (h : b.size = 1) : (getZero b[0]) = getI b := by
  have e : b.data.toList.take 7 = [b[0]] := by
    rw [show b.data.toList.take 7 = b.data.toList.take 1 by rw [List.take_of_length_le (by simp; omega), List.take_of_length_le (by simp; omega)]]
    exact ba_list b 1 (by omega) _ rfl (by intro i hi; rcases i with _ | _ <;> first | rfl | omega)
  rw [getI, e, getZero_is]
  simp only [numL, List.foldr_cons, List.foldr_nil, Int.zero_mul, Int.zero_add]
set_option maxRecDepth 100000 in
theorem Get_1 (b : ByteArray) (h : b.size = 1) (w : World) :
    Calls Tryz.prog 107 #[.string b] w fun e w' => e = .returned (.int .i64 (getI b)) ∧ w' = w := by
  have HG := Lib.hid (getI_1 b h)
  go_enter Tryz.func107, Tryz.ntmps107
  go_wp2
  go_ret
  exact ⟨ret_i64 HG.out, rfl⟩
theorem getI_2 (b : ByteArray) (h : b.size = 2) : (getStep (getZero b[1]) b[0]) = getI b := by
  have e : b.data.toList.take 7 = [b[0], b[1]] := by
    rw [show b.data.toList.take 7 = b.data.toList.take 2 by rw [List.take_of_length_le (by simp; omega), List.take_of_length_le (by simp; omega)]]
    exact ba_list b 2 (by omega) _ rfl (by intro i hi; rcases i with _ | _ | _ <;> first | rfl | omega)
  rw [getI, e, getZero_is]
  exact getS_2 b[0] b[1]
set_option maxRecDepth 100000 in
theorem Get_2 (b : ByteArray) (h : b.size = 2) (w : World) :
    Calls Tryz.prog 107 #[.string b] w fun e w' => e = .returned (.int .i64 (getI b)) ∧ w' = w := by
  have HG := Lib.hid (getI_2 b h)
  go_enter Tryz.func107, Tryz.ntmps107
  go_wp2
  go_ret
  exact ⟨ret_i64 HG.out, rfl⟩
theorem getI_3 (b : ByteArray) (h : b.size = 3) : (getStep (getStep (getZero b[2]) b[1]) b[0]) = getI b := by
  have e : b.data.toList.take 7 = [b[0], b[1], b[2]] := by
    rw [show b.data.toList.take 7 = b.data.toList.take 3 by rw [List.take_of_length_le (by simp; omega), List.take_of_length_le (by simp; omega)]]
    exact ba_list b 3 (by omega) _ rfl (by intro i hi; rcases i with _ | _ | _ | _ <;> first | rfl | omega)
  rw [getI, e, getZero_is]
  exact getS_3 b[0] b[1] b[2]
set_option maxRecDepth 100000 in
theorem Get_3 (b : ByteArray) (h : b.size = 3) (w : World) :
    Calls Tryz.prog 107 #[.string b] w fun e w' => e = .returned (.int .i64 (getI b)) ∧ w' = w := by
  have HG := Lib.hid (getI_3 b h)
  go_enter Tryz.func107, Tryz.ntmps107
  go_wp2
  go_ret
  exact ⟨ret_i64 HG.out, rfl⟩
theorem getI_4 (b : ByteArray) (h : b.size = 4) : (getStep (getStep (getStep (getZero b[3]) b[2]) b[1]) b[0]) = getI b := by
  have e : b.data.toList.take 7 = [b[0], b[1], b[2], b[3]] := by
    rw [show b.data.toList.take 7 = b.data.toList.take 4 by rw [List.take_of_length_le (by simp; omega), List.take_of_length_le (by simp; omega)]]
    exact ba_list b 4 (by omega) _ rfl (by intro i hi; rcases i with _ | _ | _ | _ | _ <;> first | rfl | omega)
  rw [getI, e, getZero_is]
  exact getS_4 b[0] b[1] b[2] b[3]
set_option maxRecDepth 100000 in
theorem Get_4 (b : ByteArray) (h : b.size = 4) (w : World) :
    Calls Tryz.prog 107 #[.string b] w fun e w' => e = .returned (.int .i64 (getI b)) ∧ w' = w := by
  have HG := Lib.hid (getI_4 b h)
  go_enter Tryz.func107, Tryz.ntmps107
  go_wp2
  go_ret
  exact ⟨ret_i64 HG.out, rfl⟩
theorem getI_5 (b : ByteArray) (h : b.size = 5) : (getStep (getStep (getStep (getStep (getZero b[4]) b[3]) b[2]) b[1]) b[0]) = getI b := by
  have e : b.data.toList.take 7 = [b[0], b[1], b[2], b[3], b[4]] := by
    rw [show b.data.toList.take 7 = b.data.toList.take 5 by rw [List.take_of_length_le (by simp; omega), List.take_of_length_le (by simp; omega)]]
    exact ba_list b 5 (by omega) _ rfl (by intro i hi; rcases i with _ | _ | _ | _ | _ | _ <;> first | rfl | omega)
  rw [getI, e, getZero_is]
  exact getS_5 b[0] b[1] b[2] b[3] b[4]
set_option maxRecDepth 100000 in
theorem Get_5 (b : ByteArray) (h : b.size = 5) (w : World) :
    Calls Tryz.prog 107 #[.string b] w fun e w' => e = .returned (.int .i64 (getI b)) ∧ w' = w := by
  have HG := Lib.hid (getI_5 b h)
  go_enter Tryz.func107, Tryz.ntmps107
  go_wp2
  go_ret
  exact ⟨ret_i64 HG.out, rfl⟩
theorem getI_6 (b : ByteArray) (h : b.size = 6) : (getStep (getStep (getStep (getStep (getStep (getZero b[5]) b[4]) b[3]) b[2]) b[1]) b[0]) = getI b := by
  have e : b.data.toList.take 7 = [b[0], b[1], b[2], b[3], b[4], b[5]] := by
    rw [show b.data.toList.take 7 = b.data.toList.take 6 by rw [List.take_of_length_le (by simp; omega), List.take_of_length_le (by simp; omega)]]
    exact ba_list b 6 (by omega) _ rfl (by intro i hi; rcases i with _ | _ | _ | _ | _ | _ | _ <;> first | rfl | omega)
  rw [getI, e, getZero_is]
  exact getS_6 b[0] b[1] b[2] b[3] b[4] b[5]
set_option maxRecDepth 100000 in
theorem Get_6 (b : ByteArray) (h : b.size = 6) (w : World) :
    Calls Tryz.prog 107 #[.string b] w fun e w' => e = .returned (.int .i64 (getI b)) ∧ w' = w := by
  have HG := Lib.hid (getI_6 b h)
  go_enter Tryz.func107, Tryz.ntmps107
  go_wp2
  go_ret
  exact ⟨ret_i64 HG.out, rfl⟩
theorem getI_7 (b : ByteArray) (h : 7 ≤ b.size) : (getStep (getStep (getStep (getStep (getStep (getStep (wrap64 (b[6].toNat : Int)) b[5]) b[4]) b[3]) b[2]) b[1]) b[0]) = getI b := by
  have e : b.data.toList.take 7 = [b[0], b[1], b[2], b[3], b[4], b[5], b[6]] := by
    exact ba_list b 7 (by omega) _ rfl (by intro i hi; rcases i with _ | _ | _ | _ | _ | _ | _ | _ <;> first | rfl | omega)
  rw [getI, e, w64_u8]
  exact getS_7 b[0] b[1] b[2] b[3] b[4] b[5] b[6]
set_option maxRecDepth 100000 in
theorem Get_7 (b : ByteArray) (h : 7 ≤ b.size) (hs : b.size ≤ maxLen) (w : World) :
    Calls Tryz.prog 107 #[.string b] w fun e w' => e = .returned (.int .i64 (getI b)) ∧ w' = w := by
  have HG := Lib.hid (getI_7 b h)
  unfold maxLen at hs
  go_enter Tryz.func107, Tryz.ntmps107
  go_wp2
  go_ret
  exact ⟨ret_i64 HG.out, rfl⟩
set_option maxRecDepth 100000 in
theorem Get_0 (b : ByteArray) (h : b.size = 0) (w : World) :
    Calls Tryz.prog 107 #[.string b] w fun e w' => e = .returned (.int .i64 (getI b)) ∧ w' = w := by
  have HG := Lib.hid (show (0 : Int) = getI b by
    have e : b.data.toList = [] := List.eq_nil_of_length_eq_zero (by simpa using h)
    rw [getI, e]; rfl)
  go_enter Tryz.func107, Tryz.ntmps107
  go_wp2
  go_ret
  exact ⟨ret_i64 HG.out, rfl⟩
theorem Get_is (b : ByteArray) (hs : b.size ≤ maxLen) (w : World) :
    Calls Tryz.prog 107 #[.string b] w fun e w' => e = .returned (.int .i64 (getI b)) ∧ w' = w := by
  have : b.size = 0 ∨ b.size = 1 ∨ b.size = 2 ∨ b.size = 3 ∨ b.size = 4 ∨ b.size = 5 ∨ b.size = 6 ∨ 7 ≤ b.size := by omega
  rcases this with h | h | h | h | h | h | h | h
  · exact Get_0 b h w
  · exact Get_1 b h w
  · exact Get_2 b h w
  · exact Get_3 b h w
  · exact Get_4 b h w
  · exact Get_5 b h w
  · exact Get_6 b h w
  · exact Get_7 b h hs w

theorem drop_cons (l : List UInt8) (j : Nat) (h : j < l.length) : l.drop j = l[j] :: l.drop (j + 1) := List.drop_eq_getElem_cons h

end Go.Proofs.YtbcdmcafobjpcaaGreatDoor
