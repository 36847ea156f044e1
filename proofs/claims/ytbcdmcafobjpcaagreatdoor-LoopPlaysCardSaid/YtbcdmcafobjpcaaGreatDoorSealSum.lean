/- Sum, the project's and the document's own, by one function on lists; what is needed of it. -/
import Derived.Test.YtbcdmcafobjpcaaGreatDoorProg
import Derived.WalkKit
import Derived.ProofKit
import Derived.Lib.Hide
import Derived.Laws.BitsAllLaws
namespace Go.Proofs.YtbcdmcafobjpcaaGreatDoor
open Go.RowKit

def sumStep (x : Int) (c : UInt8) : Int := bits .xor .u32 x ((c.toNat : Int) % 4294967296) * 16777619 % 4294967296
def sumI (l : List UInt8) : Int := l.foldl sumStep 2166136261
theorem sumStep_range (x : Int) (c : UInt8) : 0 ≤ sumStep x c ∧ sumStep x c < 4294967296 := by unfold sumStep; omega
theorem sumI_snoc (l : List UInt8) (c : UInt8) : sumI (l ++ [c]) = sumStep (sumI l) c := by simp [sumI]
theorem sumI_range (l : List UInt8) : 0 ≤ sumI l ∧ sumI l < 4294967296 := by
  rcases List.eq_nil_or_concat l with rfl | ⟨l, c, rfl⟩
  · decide
  · rw [List.concat_eq_append, sumI_snoc]; exact sumStep_range _ _
theorem u8_lt (c : UInt8) : c.toNat < 256 := c.toNat_lt
theorem sumStep_nat (x : Nat) (hx : x < 4294967296) (c : UInt8) : sumStep x c = ((x ^^^ c.toNat : Nat) : Int) * 16777619 % 4294967296 := by
  have hc := u8_lt c
  unfold sumStep
  have e : ((c.toNat : Int) % 4294967296) = ((c.toNat : Nat) : Int) := by omega
  rw [e, u32_xor_nat x c.toNat hx (by omega)]
theorem times_back (z : Int) : z * 16777619 % 4294967296 * 899433627 % 4294967296 = z % 4294967296 := by
  have e : (16777619 : Int) * 899433627 % 4294967296 = 1 := by decide
  rw [Int.mul_emod, Int.emod_emod, ← Int.mul_emod, Int.mul_assoc, Int.mul_emod, e, Int.mul_one, Int.emod_emod]
theorem times_inj (a b : Nat) (ha : a < 4294967296) (hb : b < 4294967296) (h : (a : Int) * 16777619 % 4294967296 = (b : Int) * 16777619 % 4294967296) : a = b := by
  have ea := times_back a
  have eb := times_back b
  rw [h, eb] at ea
  clear eb h
  omega
theorem xor_cancel (x y c : Nat) (h : x ^^^ c = y ^^^ c) : x = y := by
  have := congrArg (· ^^^ c) h
  simpa [Nat.xor_assoc] using this
theorem xor_lt32 (x c : Nat) (hx : x < 4294967296) (hc : c < 256) : x ^^^ c < 4294967296 := Nat.xor_lt_two_pow (n := 32) (by omega) (by omega)
theorem sumStep_inj {x y : Int} {c d : UInt8} (hx : 0 ≤ x ∧ x < 4294967296) (hy : 0 ≤ y ∧ y < 4294967296) (h : sumStep x c = sumStep y d) : x.toNat ^^^ c.toNat = y.toNat ^^^ d.toNat := by
  obtain ⟨X, rfl⟩ := Int.eq_ofNat_of_zero_le hx.1
  obtain ⟨Y, rfl⟩ := Int.eq_ofNat_of_zero_le hy.1
  rw [sumStep_nat X (by omega), sumStep_nat Y (by omega)] at h
  simpa using times_inj _ _ (xor_lt32 X c.toNat (by omega) (u8_lt c)) (xor_lt32 Y d.toNat (by omega) (u8_lt d)) h
theorem sumStep_left {x y : Int} {c : UInt8} (hx : 0 ≤ x ∧ x < 4294967296) (hy : 0 ≤ y ∧ y < 4294967296) (h : sumStep x c = sumStep y c) : x = y := by
  have e := sumStep_inj hx hy h
  have := xor_cancel _ _ _ e
  omega
theorem sumStep_right {x : Int} {c d : UInt8} (hx : 0 ≤ x ∧ x < 4294967296) (h : sumStep x c = sumStep x d) : c = d := by
  have e := sumStep_inj hx hx h
  exact UInt8.toNat_inj.1 (xor_cancel _ _ x.toNat (by rw [Nat.xor_comm, e, Nat.xor_comm]))
theorem foldl_sum_range (l : List UInt8) {x : Int} (hx : 0 ≤ x ∧ x < 4294967296) : 0 ≤ l.foldl sumStep x ∧ l.foldl sumStep x < 4294967296 := by
  rcases List.eq_nil_or_concat l with rfl | ⟨l, c, rfl⟩
  · exact hx
  · rw [List.concat_eq_append, List.foldl_append]; exact sumStep_range _ _
theorem foldl_sum_inj (l : List UInt8) : ∀ {x y : Int}, (0 ≤ x ∧ x < 4294967296) → (0 ≤ y ∧ y < 4294967296) → l.foldl sumStep x = l.foldl sumStep y → x = y := by
  induction l with
  | nil => intro x y _ _ h; exact h
  | cons c l ih => intro x y hx hy h; exact sumStep_left hx hy (ih (sumStep_range _ _) (sumStep_range _ _) h)
/-- One byte turned: another sum. -/
theorem sumI_turned (a b : List UInt8) {c d : UInt8} (h : sumI (a ++ c :: b) = sumI (a ++ d :: b)) : c = d := by
  unfold sumI at h
  rw [List.foldl_append, List.foldl_append] at h
  have ha := sumI_range a
  exact sumStep_right ha (foldl_sum_inj b (sumStep_range _ _) (sumStep_range _ _) h)

theorem ba_take_snoc (s : ByteArray) (k : Nat) (h : k < s.size) : s.data.toList.take (k + 1) = s.data.toList.take k ++ [s[k]] := by
  rw [List.take_succ_eq_append_getElem (by simpa using h)]; rfl
theorem sum_end (b : ByteArray) : sumI (b.data.toList.take b.size) = sumI b.data.toList := by rw [List.take_of_length_le (by simp)]
theorem ret_u32 {a b : Int} (h : a = b) : Ending.returned (.int .u32 a) = .returned (.int .u32 b) := by rw [h]
theorem val_u32 {a b : Int} (h : a = b) : Value.int .u32 a = .int .u32 b := by rw [h]

set_option maxRecDepth 100000 in
theorem Sum_is (b : ByteArray) (w : World) (hb : b.size ≤ maxLen) :
    Calls Tryz.prog 104 #[.string b] w fun e w' => e = .returned (.int .u32 (sumI b.data.toList)) ∧ w' = w := by
  unfold maxLen at hb
  go_enter Tryz.func104, Tryz.ntmps104
  go_wp2
  go_loop [3, 7] (fun s i => ∃ (k : Nat), k ≤ b.size ∧ i = .int .i64 (k : Int) ∧ s = .int .u32 (sumI (b.data.toList.take k))) (fun _ i => b.size - (intOf i).toNat)
  case atStart => exact ⟨0, Nat.zero_le _, rfl, rfl⟩
  case round =>
    obtain ⟨k, hk, rfl, rfl⟩ := hrel
    by_cases hlt : k < b.size
    · have HS := Lib.hid (show sumI (b.data.toList.take (k + 1)) = sumStep (sumI (b.data.toList.take k)) b[k] by rw [ba_take_snoc b k hlt, sumI_snoc])
      generalize sumI (b.data.toList.take k) = x at *
      go_wp2
      exact ⟨⟨k + 1, by omega, by go_num, val_u32 (by rw [HS.out]; rfl)⟩, by simp [intOf]; omega⟩
    · obtain rfl : k = b.size := by omega
      have HS := Lib.hid (sum_end b)
      generalize sumI (b.data.toList.take b.size) = x at *
      clear hlt hk
      go_wp2
      go_ret
      exact ⟨ret_u32 HS.out, rfl⟩
end Go.Proofs.YtbcdmcafobjpcaaGreatDoor
