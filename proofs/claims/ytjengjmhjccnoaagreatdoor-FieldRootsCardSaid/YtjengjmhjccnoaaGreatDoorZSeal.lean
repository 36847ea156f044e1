/- SealSum, SealPut, SealGet, SealRPut, SealSeal, SealROpen, SealMath -/
import Derived.Test.YtjengjmhjccnoaaGreatDoorProg
import Derived.WalkKit
import Derived.ProofKit
import Derived.Lib.Hide
import Derived.Laws.BitsAllLaws
import Derived.Laws.BytesArg
import Derived.Deep.QuietTactic
import Derived.BigQuiet
import Derived.Test.YtjengjmhjccnoaaGreatDoorZShelf
set_option linter.unusedVariables false
set_option linter.unusedSimpArgs false
-- SealSum
/- Sum, the project's and the document's own, by one function on lists; what is needed of it. -/
namespace Go.Proofs.YtjengjmhjccnoaaGreatDoor
open Go.RowKit

def sumStep (x : Int) (c : UInt8) : Int := bits .xor .u32 x ((c.toNat : Int) % 4294967296) * 16777619 % 4294967296
def sumI (l : List UInt8) : Int := l.foldl sumStep 2166136261
theorem sumStep_range (x : Int) (c : UInt8) : 0 ≤ sumStep x c ∧ sumStep x c < 4294967296 := by unfold sumStep; omega
theorem sumI_snoc (l : List UInt8) (c : UInt8) : sumI (l ++ [c]) = sumStep (sumI l) c := by simp [sumI]
theorem sumI_range (l : List UInt8) : 0 ≤ sumI l ∧ sumI l < 4294967296 := by
  rcases List.eq_nil_or_concat l with rfl | ⟨l, c, rfl⟩
  · decide
  · rw [List.concat_eq_append, sumI_snoc]; exact sumStep_range _ _
theorem u8_lt (c : UInt8) : c.toNat < 256 := c.toNat_lt
theorem sumStep_nat (x : Nat) (hx : x < 4294967296) (c : UInt8) : sumStep x c = ((x ^^^ c.toNat : Nat) : Int) * 16777619 % 4294967296 := by
  have hc := u8_lt c
  unfold sumStep
  have e : ((c.toNat : Int) % 4294967296) = ((c.toNat : Nat) : Int) := by omega
  rw [e, u32_xor_nat x c.toNat hx (by omega)]
theorem times_back (z : Int) : z * 16777619 % 4294967296 * 899433627 % 4294967296 = z % 4294967296 := by
  have e : (16777619 : Int) * 899433627 % 4294967296 = 1 := by decide
  rw [Int.mul_emod, Int.emod_emod, ← Int.mul_emod, Int.mul_assoc, Int.mul_emod, e, Int.mul_one, Int.emod_emod]
theorem times_inj (a b : Nat) (ha : a < 4294967296) (hb : b < 4294967296) (h : (a : Int) * 16777619 % 4294967296 = (b : Int) * 16777619 % 4294967296) : a = b := by
  have ea := times_back a
  have eb := times_back b
  rw [h, eb] at ea
  clear eb h
  omega
theorem xor_cancel (x y c : Nat) (h : x ^^^ c = y ^^^ c) : x = y := by
  have := congrArg (· ^^^ c) h
  simpa [Nat.xor_assoc] using this
theorem xor_lt32 (x c : Nat) (hx : x < 4294967296) (hc : c < 256) : x ^^^ c < 4294967296 := Nat.xor_lt_two_pow (n := 32) (by omega) (by omega)
theorem sumStep_inj {x y : Int} {c d : UInt8} (hx : 0 ≤ x ∧ x < 4294967296) (hy : 0 ≤ y ∧ y < 4294967296) (h : sumStep x c = sumStep y d) : x.toNat ^^^ c.toNat = y.toNat ^^^ d.toNat := by
  obtain ⟨X, rfl⟩ := Int.eq_ofNat_of_zero_le hx.1
  obtain ⟨Y, rfl⟩ := Int.eq_ofNat_of_zero_le hy.1
  rw [sumStep_nat X (by omega), sumStep_nat Y (by omega)] at h
  simpa using times_inj _ _ (xor_lt32 X c.toNat (by omega) (u8_lt c)) (xor_lt32 Y d.toNat (by omega) (u8_lt d)) h
theorem sumStep_left {x y : Int} {c : UInt8} (hx : 0 ≤ x ∧ x < 4294967296) (hy : 0 ≤ y ∧ y < 4294967296) (h : sumStep x c = sumStep y c) : x = y := by
  have e := sumStep_inj hx hy h
  have := xor_cancel _ _ _ e
  omega
theorem sumStep_right {x : Int} {c d : UInt8} (hx : 0 ≤ x ∧ x < 4294967296) (h : sumStep x c = sumStep x d) : c = d := by
  have e := sumStep_inj hx hx h
  exact UInt8.toNat_inj.1 (xor_cancel _ _ x.toNat (by rw [Nat.xor_comm, e, Nat.xor_comm]))
theorem foldl_sum_range (l : List UInt8) {x : Int} (hx : 0 ≤ x ∧ x < 4294967296) : 0 ≤ l.foldl sumStep x ∧ l.foldl sumStep x < 4294967296 := by
  rcases List.eq_nil_or_concat l with rfl | ⟨l, c, rfl⟩
  · exact hx
  · rw [List.concat_eq_append, List.foldl_append]; exact sumStep_range _ _
theorem foldl_sum_inj (l : List UInt8) : ∀ {x y : Int}, (0 ≤ x ∧ x < 4294967296) → (0 ≤ y ∧ y < 4294967296) → l.foldl sumStep x = l.foldl sumStep y → x = y := by
  induction l with
  | nil => intro x y _ _ h; exact h
  | cons c l ih => intro x y hx hy h; exact sumStep_left hx hy (ih (sumStep_range _ _) (sumStep_range _ _) h)
/-- One byte turned: another sum. -/
theorem sumI_turned (a b : List UInt8) {c d : UInt8} (h : sumI (a ++ c :: b) = sumI (a ++ d :: b)) : c = d := by
  unfold sumI at h
  rw [List.foldl_append, List.foldl_append] at h
  have ha := sumI_range a
  exact sumStep_right ha (foldl_sum_inj b (sumStep_range _ _) (sumStep_range _ _) h)

theorem ba_take_snoc (s : ByteArray) (k : Nat) (h : k < s.size) : s.data.toList.take (k + 1) = s.data.toList.take k ++ [s[k]] := by
  rw [List.take_succ_eq_append_getElem (by simpa using h)]; rfl
theorem sum_end (b : ByteArray) : sumI (b.data.toList.take b.size) = sumI b.data.toList := by rw [List.take_of_length_le (by simp)]
theorem ret_u32 {a b : Int} (h : a = b) : Ending.returned (.int .u32 a) = .returned (.int .u32 b) := by rw [h]
theorem val_u32 {a b : Int} (h : a = b) : Value.int .u32 a = .int .u32 b := by rw [h]

set_option maxRecDepth 100000 in
theorem Sum_is (b : ByteArray) (w : World) (hb : b.size ≤ maxLen) :
    Calls Tryz.prog 131 #[.string b] w fun e w' => e = .returned (.int .u32 (sumI b.data.toList)) ∧ w' = w := by
  unfold maxLen at hb
  go_enter Tryz.func131, Tryz.ntmps131
  go_wp2
  go_loop [3, 7] (fun s i => ∃ (k : Nat), k ≤ b.size ∧ i = .int .i64 (k : Int) ∧ s = .int .u32 (sumI (b.data.toList.take k))) (fun _ i => b.size - (intOf i).toNat)
  case atStart => exact ⟨0, Nat.zero_le _, rfl, rfl⟩
  case round =>
    obtain ⟨k, hk, rfl, rfl⟩ := hrel
    by_cases hlt : k < b.size
    · have HS := Lib.hid (show sumI (b.data.toList.take (k + 1)) = sumStep (sumI (b.data.toList.take k)) b[k] by rw [ba_take_snoc b k hlt, sumI_snoc])
      generalize sumI (b.data.toList.take k) = x at *
      go_wp2
      exact ⟨⟨k + 1, by omega, by go_num, val_u32 (by rw [HS.out]; rfl)⟩, by simp [intOf]; omega⟩
    · obtain rfl : k = b.size := by omega
      have HS := Lib.hid (sum_end b)
      generalize sumI (b.data.toList.take b.size) = x at *
      clear hlt hk
      go_wp2
      go_ret
      exact ⟨ret_u32 HS.out, rfl⟩
end Go.Proofs.YtjengjmhjccnoaaGreatDoor
-- SealPut
/- Put, the project's and the document's own: a number's bytes. -/
namespace Go.Proofs.YtjengjmhjccnoaaGreatDoor
open Go.RowKit

/-- A number's bytes, the lowest first. -/
def putL (v : Int) (n : Nat) : List Int := (List.range n).map fun k => v / 256 ^ k % 256
def putB (v : Int) (n : Nat) : ByteArray := strOfNums (putL v n)
theorem putL_len (v : Int) (n : Nat) : (putL v n).length = n := by simp [putL]
theorem putB_size (v : Int) (n : Nat) : (putB v n).size = n := by rw [putB, strOfNums_size, putL_len]
/-- What Put tells. -/
def putS (v n : Int) : ByteArray := if 0 ≤ v ∧ v < 4294967296 ∧ 1 ≤ n ∧ n ≤ 8 then putB v n.toNat else ByteArray.empty

theorem conv_cells (w : World) (t : TypeId) (cs : Array Value) (xs : List Int) (n c : Nat) (hn : xs.length = n) (hx : ∀ i, i < n → cs[i]? = some (.int .u8 (xs.getD i 0))) :
    (convert 128 9 (.slice (some ⟨w.heap.size, 0, none⟩) n c)).run Tryz.prog (w.alloc (.cells cs t)) = .ok (.string (strOfNums xs)) (w.alloc (.cells cs t)) := by
  refine run_convert_bytes_arg _ 128 5 (by kernel_rfl) (by kernel_rfl) w.heap.size 0 n c xs hn (fun i hi => ?_) 9 (by kernel_rfl)
  rw [Nat.zero_add, World.cell?_alloc_new]
  exact hx i hi
theorem ret_str {a b : ByteArray} (h : a = b) : Ending.returned (.string a) = .returned (.string b) := by rw [h]

set_option maxRecDepth 100000 in
theorem Put_out (v n : Int) (h : ¬ (0 ≤ v ∧ v < 4294967296 ∧ 1 ≤ n ∧ n ≤ 8)) (w : World) :
    Calls Tryz.prog 110 #[.int .i64 v, .int .i64 n] w fun e w' => e = .returned (.string ByteArray.empty) ∧ Below w.heap.size w w' := by
  by_cases h0 : v < 0 ∨ 4294967296 ≤ v
  · clear h
    rcases h0 with h0 | h0
    all_goals
      go_enter Tryz.func110, Tryz.ntmps110
      go_wp2
      all_goals
        go_ret
        exact ⟨rfl, Below.refl _ _⟩
  · have hn : n < 1 ∨ 8 < n := by omega
    have h1 : 0 ≤ v := by omega
    have h2 : v < 4294967296 := by omega
    clear h h0
    rcases hn with hn | hn
    all_goals
      go_enter Tryz.func110, Tryz.ntmps110
      go_wp2
      all_goals
        go_ret
        exact ⟨rfl, (Below.refl _ _).alloc (Nat.le_refl _) _⟩

theorem putL_1 (v : Int) (_h0 : 0 ≤ v) (_h1 : v < 4294967296) : [v % 256] = putL v 1 := by
  simp [putL, List.range, List.range.loop]
  try omega
set_option maxRecDepth 100000 in
theorem Put_1 (v : Int) (h0 : 0 ≤ v) (h1 : v < 4294967296) (w : World) :
    Calls Tryz.prog 110 #[.int .i64 v, .int .i64 1] w fun e w' => e = .returned (.string (putB v 1)) ∧ Below w.heap.size w w' := by
  have HL := Lib.hid (putL_1 v h0 h1)
  have hcv : ∀ (t : TypeId) (cs : Array Value), (∀ i, i < 1 → cs[i]? = some (.int .u8 (([v % 256] : List Int).getD i 0))) → (convert 128 9 (.slice (some ⟨w.heap.size, 0, none⟩) 1 8)).run Tryz.prog (w.alloc (.cells cs t)) = .ok (.string (strOfNums [v % 256])) (w.alloc (.cells cs t)) :=
    fun t cs hx => conv_cells w t cs _ 1 8 rfl hx
  have HC := Lib.hid hcv
  clear hcv
  go_enter Tryz.func110, Tryz.ntmps110
  go_wp2_with fail
  rw [HC.out _ _ (by intro i hi; rcases i with _ | _ | _ | _ | _ | _ | _ | _ | _ <;> first | rfl | omega)]
  go_wp2
  go_ret
  exact ⟨ret_str (by rw [HL.out]; rfl), (Below.refl _ _).alloc (Nat.le_refl _) _⟩
theorem putL_2 (v : Int) (_h0 : 0 ≤ v) (_h1 : v < 4294967296) : [v % 256, v / 256 % 256] = putL v 2 := by
  simp [putL, List.range, List.range.loop]
  try omega
set_option maxRecDepth 100000 in
theorem Put_2 (v : Int) (h0 : 0 ≤ v) (h1 : v < 4294967296) (w : World) :
    Calls Tryz.prog 110 #[.int .i64 v, .int .i64 2] w fun e w' => e = .returned (.string (putB v 2)) ∧ Below w.heap.size w w' := by
  have HL := Lib.hid (putL_2 v h0 h1)
  have hcv : ∀ (t : TypeId) (cs : Array Value), (∀ i, i < 2 → cs[i]? = some (.int .u8 (([v % 256, v / 256 % 256] : List Int).getD i 0))) → (convert 128 9 (.slice (some ⟨w.heap.size, 0, none⟩) 2 8)).run Tryz.prog (w.alloc (.cells cs t)) = .ok (.string (strOfNums [v % 256, v / 256 % 256])) (w.alloc (.cells cs t)) :=
    fun t cs hx => conv_cells w t cs _ 2 8 rfl hx
  have HC := Lib.hid hcv
  clear hcv
  go_enter Tryz.func110, Tryz.ntmps110
  go_wp2_with fail
  rw [HC.out _ _ (by intro i hi; rcases i with _ | _ | _ | _ | _ | _ | _ | _ | _ <;> first | rfl | omega)]
  go_wp2
  go_ret
  exact ⟨ret_str (by rw [HL.out]; rfl), (Below.refl _ _).alloc (Nat.le_refl _) _⟩
theorem putL_3 (v : Int) (_h0 : 0 ≤ v) (_h1 : v < 4294967296) : [v % 256, v / 256 % 256, v / 65536 % 256] = putL v 3 := by
  simp [putL, List.range, List.range.loop]
  try omega
set_option maxRecDepth 100000 in
theorem Put_3 (v : Int) (h0 : 0 ≤ v) (h1 : v < 4294967296) (w : World) :
    Calls Tryz.prog 110 #[.int .i64 v, .int .i64 3] w fun e w' => e = .returned (.string (putB v 3)) ∧ Below w.heap.size w w' := by
  have HL := Lib.hid (putL_3 v h0 h1)
  have hcv : ∀ (t : TypeId) (cs : Array Value), (∀ i, i < 3 → cs[i]? = some (.int .u8 (([v % 256, v / 256 % 256, v / 65536 % 256] : List Int).getD i 0))) → (convert 128 9 (.slice (some ⟨w.heap.size, 0, none⟩) 3 8)).run Tryz.prog (w.alloc (.cells cs t)) = .ok (.string (strOfNums [v % 256, v / 256 % 256, v / 65536 % 256])) (w.alloc (.cells cs t)) :=
    fun t cs hx => conv_cells w t cs _ 3 8 rfl hx
  have HC := Lib.hid hcv
  clear hcv
  go_enter Tryz.func110, Tryz.ntmps110
  go_wp2_with fail
  rw [HC.out _ _ (by intro i hi; rcases i with _ | _ | _ | _ | _ | _ | _ | _ | _ <;> first | rfl | omega)]
  go_wp2
  go_ret
  exact ⟨ret_str (by rw [HL.out]; rfl), (Below.refl _ _).alloc (Nat.le_refl _) _⟩
theorem putL_4 (v : Int) (_h0 : 0 ≤ v) (_h1 : v < 4294967296) : [v % 256, v / 256 % 256, v / 65536 % 256, v / 16777216] = putL v 4 := by
  simp [putL, List.range, List.range.loop]
  try omega
set_option maxRecDepth 100000 in
theorem Put_4 (v : Int) (h0 : 0 ≤ v) (h1 : v < 4294967296) (w : World) :
    Calls Tryz.prog 110 #[.int .i64 v, .int .i64 4] w fun e w' => e = .returned (.string (putB v 4)) ∧ Below w.heap.size w w' := by
  have HL := Lib.hid (putL_4 v h0 h1)
  have hcv : ∀ (t : TypeId) (cs : Array Value), (∀ i, i < 4 → cs[i]? = some (.int .u8 (([v % 256, v / 256 % 256, v / 65536 % 256, v / 16777216] : List Int).getD i 0))) → (convert 128 9 (.slice (some ⟨w.heap.size, 0, none⟩) 4 8)).run Tryz.prog (w.alloc (.cells cs t)) = .ok (.string (strOfNums [v % 256, v / 256 % 256, v / 65536 % 256, v / 16777216])) (w.alloc (.cells cs t)) :=
    fun t cs hx => conv_cells w t cs _ 4 8 rfl hx
  have HC := Lib.hid hcv
  clear hcv
  go_enter Tryz.func110, Tryz.ntmps110
  go_wp2_with fail
  rw [HC.out _ _ (by intro i hi; rcases i with _ | _ | _ | _ | _ | _ | _ | _ | _ <;> first | rfl | omega)]
  go_wp2
  go_ret
  exact ⟨ret_str (by rw [HL.out]; rfl), (Below.refl _ _).alloc (Nat.le_refl _) _⟩
theorem putL_5 (v : Int) (_h0 : 0 ≤ v) (_h1 : v < 4294967296) : [v % 256, v / 256 % 256, v / 65536 % 256, v / 16777216, 0] = putL v 5 := by
  simp [putL, List.range, List.range.loop]
  try omega
set_option maxRecDepth 100000 in
theorem Put_5 (v : Int) (h0 : 0 ≤ v) (h1 : v < 4294967296) (w : World) :
    Calls Tryz.prog 110 #[.int .i64 v, .int .i64 5] w fun e w' => e = .returned (.string (putB v 5)) ∧ Below w.heap.size w w' := by
  have HL := Lib.hid (putL_5 v h0 h1)
  have hcv : ∀ (t : TypeId) (cs : Array Value), (∀ i, i < 5 → cs[i]? = some (.int .u8 (([v % 256, v / 256 % 256, v / 65536 % 256, v / 16777216, 0] : List Int).getD i 0))) → (convert 128 9 (.slice (some ⟨w.heap.size, 0, none⟩) 5 8)).run Tryz.prog (w.alloc (.cells cs t)) = .ok (.string (strOfNums [v % 256, v / 256 % 256, v / 65536 % 256, v / 16777216, 0])) (w.alloc (.cells cs t)) :=
    fun t cs hx => conv_cells w t cs _ 5 8 rfl hx
  have HC := Lib.hid hcv
  clear hcv
  go_enter Tryz.func110, Tryz.ntmps110
  go_wp2_with fail
  rw [HC.out _ _ (by intro i hi; rcases i with _ | _ | _ | _ | _ | _ | _ | _ | _ <;> first | rfl | omega)]
  go_wp2
  go_ret
  exact ⟨ret_str (by rw [HL.out]; rfl), (Below.refl _ _).alloc (Nat.le_refl _) _⟩
theorem putL_6 (v : Int) (_h0 : 0 ≤ v) (_h1 : v < 4294967296) : [v % 256, v / 256 % 256, v / 65536 % 256, v / 16777216, 0, 0] = putL v 6 := by
  simp [putL, List.range, List.range.loop]
  try omega
set_option maxRecDepth 100000 in
theorem Put_6 (v : Int) (h0 : 0 ≤ v) (h1 : v < 4294967296) (w : World) :
    Calls Tryz.prog 110 #[.int .i64 v, .int .i64 6] w fun e w' => e = .returned (.string (putB v 6)) ∧ Below w.heap.size w w' := by
  have HL := Lib.hid (putL_6 v h0 h1)
  have hcv : ∀ (t : TypeId) (cs : Array Value), (∀ i, i < 6 → cs[i]? = some (.int .u8 (([v % 256, v / 256 % 256, v / 65536 % 256, v / 16777216, 0, 0] : List Int).getD i 0))) → (convert 128 9 (.slice (some ⟨w.heap.size, 0, none⟩) 6 8)).run Tryz.prog (w.alloc (.cells cs t)) = .ok (.string (strOfNums [v % 256, v / 256 % 256, v / 65536 % 256, v / 16777216, 0, 0])) (w.alloc (.cells cs t)) :=
    fun t cs hx => conv_cells w t cs _ 6 8 rfl hx
  have HC := Lib.hid hcv
  clear hcv
  go_enter Tryz.func110, Tryz.ntmps110
  go_wp2_with fail
  rw [HC.out _ _ (by intro i hi; rcases i with _ | _ | _ | _ | _ | _ | _ | _ | _ <;> first | rfl | omega)]
  go_wp2
  go_ret
  exact ⟨ret_str (by rw [HL.out]; rfl), (Below.refl _ _).alloc (Nat.le_refl _) _⟩
theorem putL_7 (v : Int) (_h0 : 0 ≤ v) (_h1 : v < 4294967296) : [v % 256, v / 256 % 256, v / 65536 % 256, v / 16777216, 0, 0, 0] = putL v 7 := by
  simp [putL, List.range, List.range.loop]
  try omega
set_option maxRecDepth 100000 in
theorem Put_7 (v : Int) (h0 : 0 ≤ v) (h1 : v < 4294967296) (w : World) :
    Calls Tryz.prog 110 #[.int .i64 v, .int .i64 7] w fun e w' => e = .returned (.string (putB v 7)) ∧ Below w.heap.size w w' := by
  have HL := Lib.hid (putL_7 v h0 h1)
  have hcv : ∀ (t : TypeId) (cs : Array Value), (∀ i, i < 7 → cs[i]? = some (.int .u8 (([v % 256, v / 256 % 256, v / 65536 % 256, v / 16777216, 0, 0, 0] : List Int).getD i 0))) → (convert 128 9 (.slice (some ⟨w.heap.size, 0, none⟩) 7 8)).run Tryz.prog (w.alloc (.cells cs t)) = .ok (.string (strOfNums [v % 256, v / 256 % 256, v / 65536 % 256, v / 16777216, 0, 0, 0])) (w.alloc (.cells cs t)) :=
    fun t cs hx => conv_cells w t cs _ 7 8 rfl hx
  have HC := Lib.hid hcv
  clear hcv
  go_enter Tryz.func110, Tryz.ntmps110
  go_wp2_with fail
  rw [HC.out _ _ (by intro i hi; rcases i with _ | _ | _ | _ | _ | _ | _ | _ | _ <;> first | rfl | omega)]
  go_wp2
  go_ret
  exact ⟨ret_str (by rw [HL.out]; rfl), (Below.refl _ _).alloc (Nat.le_refl _) _⟩
theorem putL_8 (v : Int) (_h0 : 0 ≤ v) (_h1 : v < 4294967296) : [v % 256, v / 256 % 256, v / 65536 % 256, v / 16777216, 0, 0, 0, 0] = putL v 8 := by
  simp [putL, List.range, List.range.loop]
  try omega
set_option maxRecDepth 100000 in
theorem Put_8 (v : Int) (h0 : 0 ≤ v) (h1 : v < 4294967296) (w : World) :
    Calls Tryz.prog 110 #[.int .i64 v, .int .i64 8] w fun e w' => e = .returned (.string (putB v 8)) ∧ Below w.heap.size w w' := by
  have HL := Lib.hid (putL_8 v h0 h1)
  have hcv : ∀ (t : TypeId) (cs : Array Value), (∀ i, i < 8 → cs[i]? = some (.int .u8 (([v % 256, v / 256 % 256, v / 65536 % 256, v / 16777216, 0, 0, 0, 0] : List Int).getD i 0))) → (convert 128 9 (.slice (some ⟨w.heap.size, 0, none⟩) 8 8)).run Tryz.prog (w.alloc (.cells cs t)) = .ok (.string (strOfNums [v % 256, v / 256 % 256, v / 65536 % 256, v / 16777216, 0, 0, 0, 0])) (w.alloc (.cells cs t)) :=
    fun t cs hx => conv_cells w t cs _ 8 8 rfl hx
  have HC := Lib.hid hcv
  clear hcv
  go_enter Tryz.func110, Tryz.ntmps110
  go_wp2_with fail
  rw [HC.out _ _ (by intro i hi; rcases i with _ | _ | _ | _ | _ | _ | _ | _ | _ <;> first | rfl | omega)]
  go_wp2
  go_ret
  exact ⟨ret_str (by rw [HL.out]; rfl), (Below.refl _ _).alloc (Nat.le_refl _) _⟩
theorem Put_is (v n : Int) (w : World) :
    Calls Tryz.prog 110 #[.int .i64 v, .int .i64 n] w fun e w' => e = .returned (.string (putS v n)) ∧ Below w.heap.size w w' := by
  by_cases h : 0 ≤ v ∧ v < 4294967296 ∧ 1 ≤ n ∧ n ≤ 8
  · have hs : putS v n = putB v n.toNat := if_pos h
    rw [hs]
    obtain ⟨h0, h1, h2, h3⟩ := h
    have : n = 1 ∨ n = 2 ∨ n = 3 ∨ n = 4 ∨ n = 5 ∨ n = 6 ∨ n = 7 ∨ n = 8 := by omega
    rcases this with rfl | rfl | rfl | rfl | rfl | rfl | rfl | rfl
    · exact Put_1 v h0 h1 w
    · exact Put_2 v h0 h1 w
    · exact Put_3 v h0 h1 w
    · exact Put_4 v h0 h1 w
    · exact Put_5 v h0 h1 w
    · exact Put_6 v h0 h1 w
    · exact Put_7 v h0 h1 w
    · exact Put_8 v h0 h1 w
  · have hs : putS v n = ByteArray.empty := if_neg h
    rw [hs]
    exact Put_out v n h w
end Go.Proofs.YtjengjmhjccnoaaGreatDoor
-- SealGet
/- Get, the project's and the document's own: the number of bytes. -/
namespace Go.Proofs.YtjengjmhjccnoaaGreatDoor
open Go.RowKit

/-- The number of a list of bytes, the lowest first. -/
def numL (l : List UInt8) : Int := l.foldr (fun c a => a * 256 + (c.toNat : Int)) 0
/-- What Get tells. -/
def getI (b : ByteArray) : Int := numL (b.data.toList.take 7)
theorem numL_cons (c : UInt8) (l : List UInt8) : numL (c :: l) = numL l * 256 + (c.toNat : Int) := rfl
theorem numL_nonneg : ∀ l : List UInt8, 0 ≤ numL l
  | [] => Int.le_refl _
  | c :: l => by have := numL_nonneg l; rw [numL_cons]; omega
theorem numL_lt : ∀ (l : List UInt8) (k : Nat), l.length ≤ k → numL l < 256 ^ k
  | [], k, _ => Int.pow_pos (by decide)
  | c :: l, 0, h => by simp at h
  | c :: l, k + 1, h => by
    have ih := numL_lt l k (by simpa using h)
    have hc := u8_lt c
    rw [numL_cons, Int.pow_succ]
    generalize (256 : Int) ^ k = z at *
    omega
def getStep (a : Int) (c : UInt8) : Int := bits .or .i64 (wrap64 (a * 256)) (wrap64 (c.toNat : Int))
theorem getStep_is (a : Int) (c : UInt8) (h0 : 0 ≤ a) (h1 : a < 281474976710656) : getStep a c = a * 256 + (c.toNat : Int) := by
  have hc := u8_lt c
  obtain ⟨A, rfl⟩ := Int.eq_ofNat_of_zero_le h0
  have e1 : wrap64 ((A : Int) * 256) = ((A * 256 : Nat) : Int) := by unfold wrap64; omega
  have e2 : wrap64 (c.toNat : Int) = ((c.toNat : Nat) : Int) := by unfold wrap64; omega
  unfold getStep
  rw [e1, e2]
  show IntKind.i64.wrap ((BitVec.ofInt 64 ((A * 256 : Nat) : Int) ||| BitVec.ofInt 64 ((c.toNat : Nat) : Int)).toNat : Int) = _
  rw [BitVec.toNat_or, ofInt_u64 _ (by omega), ofInt_u64 _ (by omega), nat_join 8 (A * 256) c.toNat (by omega) (by omega), IntKind.wrap_i64]
  omega
theorem ret_i64 {a b : Int} (h : a = b) : Ending.returned (.int .i64 a) = .returned (.int .i64 b) := by rw [h]
theorem val_i64 {a b : Int} (h : a = b) : Value.int .i64 a = .int .i64 b := by rw [h]
theorem w64_u8 (c : UInt8) : wrap64 (c.toNat : Int) = (c.toNat : Int) := by have := u8_lt c; unfold wrap64; omega

theorem ba_list (b : ByteArray) (n : Nat) (hn : n ≤ b.size) (l : List UInt8) (hl : l.length = n) (h : ∀ i (hi : i < n), l[i]? = some (b[i]'(by omega))) : b.data.toList.take n = l := by
  apply List.ext_getElem?
  intro i
  rw [List.getElem?_take]
  split
  · rename_i hi
    rw [h i hi]
    have : i < b.data.toList.length := by simpa using (by omega : i < b.size)
    rw [List.getElem?_eq_getElem this]
    rfl
  · rename_i hi
    rw [List.getElem?_eq_none (by omega)]

def getZero (c : UInt8) : Int := bits .or .i64 0 (wrap64 (c.toNat : Int))
theorem getZero_is (c : UInt8) : getZero c = (c.toNat : Int) := by
  have := getStep_is 0 c (by omega) (by omega)
  unfold getZero
  unfold getStep at this
  rw [show wrap64 ((0 : Int) * 256) = 0 by unfold wrap64; omega] at this
  omega
theorem getRun_is : ∀ (l : List UInt8) (z : Int), 0 ≤ z → z < 256 → l.length ≤ 6 →
    l.foldr (fun c a => getStep a c) z = l.foldr (fun c a => a * 256 + (c.toNat : Int)) z ∧ 0 ≤ l.foldr (fun c a => getStep a c) z ∧ l.foldr (fun c a => getStep a c) z < 256 ^ (l.length + 1)
  | [], z, h0, h1, _ => ⟨rfl, h0, by simpa using h1⟩
  | c :: l, z, h0, h1, hl => by
    obtain ⟨e, g0, g1⟩ := getRun_is l z h0 h1 (by simp at hl; omega)
    have hc := u8_lt c
    have hp : (256 : Int) ^ (l.length + 1) ≤ 256 ^ 6 := by
      have : l.length = 0 ∨ l.length = 1 ∨ l.length = 2 ∨ l.length = 3 ∨ l.length = 4 ∨ l.length = 5 := by simp at hl; omega
      rcases this with h | h | h | h | h | h <;> rw [h] <;> decide
    have g2 : l.foldr (fun c a => getStep a c) z < 281474976710656 := by
      have : (256 : Int) ^ 6 = 281474976710656 := by decide
      omega
    have e2 := getStep_is _ c g0 g2
    simp only [List.foldr_cons, List.length_cons]
    rw [e2, ← e]
    refine ⟨rfl, by omega, ?_⟩
    rw [Int.pow_succ]
    generalize (256 : Int) ^ (l.length + 1) = z at *
    omega
theorem getS_2 (x0 x1 : UInt8) : (getStep (x1.toNat : Int) x0) = numL [x0, x1] := by
  have := (getRun_is [x0] (x1.toNat : Int) (by omega) (by have := u8_lt x1; omega) (by simp)).1
  rw [List.foldr_cons, List.foldr_nil, List.foldr_cons, List.foldr_nil] at this
  rw [numL_cons, numL_cons]
  show _ = (((0 : Int) * 256 + (x1.toNat : Int)) * 256 + (x0.toNat : Int))
  rw [Int.zero_mul, Int.zero_add]
  exact this
theorem getS_3 (x0 x1 x2 : UInt8) : (getStep (getStep (x2.toNat : Int) x1) x0) = numL [x0, x1, x2] := by
  have := (getRun_is [x0, x1] (x2.toNat : Int) (by omega) (by have := u8_lt x2; omega) (by simp)).1
  rw [List.foldr_cons, List.foldr_cons, List.foldr_nil, List.foldr_cons, List.foldr_cons, List.foldr_nil] at this
  rw [numL_cons, numL_cons, numL_cons]
  show _ = ((((0 : Int) * 256 + (x2.toNat : Int)) * 256 + (x1.toNat : Int)) * 256 + (x0.toNat : Int))
  rw [Int.zero_mul, Int.zero_add]
  exact this
theorem getS_4 (x0 x1 x2 x3 : UInt8) : (getStep (getStep (getStep (x3.toNat : Int) x2) x1) x0) = numL [x0, x1, x2, x3] := by
  have := (getRun_is [x0, x1, x2] (x3.toNat : Int) (by omega) (by have := u8_lt x3; omega) (by simp)).1
  rw [List.foldr_cons, List.foldr_cons, List.foldr_cons, List.foldr_nil, List.foldr_cons, List.foldr_cons, List.foldr_cons, List.foldr_nil] at this
  rw [numL_cons, numL_cons, numL_cons, numL_cons]
  show _ = (((((0 : Int) * 256 + (x3.toNat : Int)) * 256 + (x2.toNat : Int)) * 256 + (x1.toNat : Int)) * 256 + (x0.toNat : Int))
  rw [Int.zero_mul, Int.zero_add]
  exact this
theorem getS_5 (x0 x1 x2 x3 x4 : UInt8) : (getStep (getStep (getStep (getStep (x4.toNat : Int) x3) x2) x1) x0) = numL [x0, x1, x2, x3, x4] := by
  have := (getRun_is [x0, x1, x2, x3] (x4.toNat : Int) (by omega) (by have := u8_lt x4; omega) (by simp)).1
  rw [List.foldr_cons, List.foldr_cons, List.foldr_cons, List.foldr_cons, List.foldr_nil, List.foldr_cons, List.foldr_cons, List.foldr_cons, List.foldr_cons, List.foldr_nil] at this
  rw [numL_cons, numL_cons, numL_cons, numL_cons, numL_cons]
  show _ = ((((((0 : Int) * 256 + (x4.toNat : Int)) * 256 + (x3.toNat : Int)) * 256 + (x2.toNat : Int)) * 256 + (x1.toNat : Int)) * 256 + (x0.toNat : Int))
  rw [Int.zero_mul, Int.zero_add]
  exact this
theorem getS_6 (x0 x1 x2 x3 x4 x5 : UInt8) : (getStep (getStep (getStep (getStep (getStep (x5.toNat : Int) x4) x3) x2) x1) x0) = numL [x0, x1, x2, x3, x4, x5] := by
  have := (getRun_is [x0, x1, x2, x3, x4] (x5.toNat : Int) (by omega) (by have := u8_lt x5; omega) (by simp)).1
  rw [List.foldr_cons, List.foldr_cons, List.foldr_cons, List.foldr_cons, List.foldr_cons, List.foldr_nil, List.foldr_cons, List.foldr_cons, List.foldr_cons, List.foldr_cons, List.foldr_cons, List.foldr_nil] at this
  rw [numL_cons, numL_cons, numL_cons, numL_cons, numL_cons, numL_cons]
  show _ = (((((((0 : Int) * 256 + (x5.toNat : Int)) * 256 + (x4.toNat : Int)) * 256 + (x3.toNat : Int)) * 256 + (x2.toNat : Int)) * 256 + (x1.toNat : Int)) * 256 + (x0.toNat : Int))
  rw [Int.zero_mul, Int.zero_add]
  exact this
theorem getS_7 (x0 x1 x2 x3 x4 x5 x6 : UInt8) : (getStep (getStep (getStep (getStep (getStep (getStep (x6.toNat : Int) x5) x4) x3) x2) x1) x0) = numL [x0, x1, x2, x3, x4, x5, x6] := by
  have := (getRun_is [x0, x1, x2, x3, x4, x5] (x6.toNat : Int) (by omega) (by have := u8_lt x6; omega) (by simp)).1
  rw [List.foldr_cons, List.foldr_cons, List.foldr_cons, List.foldr_cons, List.foldr_cons, List.foldr_cons, List.foldr_nil, List.foldr_cons, List.foldr_cons, List.foldr_cons, List.foldr_cons, List.foldr_cons, List.foldr_cons, List.foldr_nil] at this
  rw [numL_cons, numL_cons, numL_cons, numL_cons, numL_cons, numL_cons, numL_cons]
  show _ = ((((((((0 : Int) * 256 + (x6.toNat : Int)) * 256 + (x5.toNat : Int)) * 256 + (x4.toNat : Int)) * 256 + (x3.toNat : Int)) * 256 + (x2.toNat : Int)) * 256 + (x1.toNat : Int)) * 256 + (x0.toNat : Int))
  rw [Int.zero_mul, Int.zero_add]
  exact this
theorem getI_1 (b : ByteArray) (h : b.size = 1) : (getZero b[0]) = getI b := by
  have e : b.data.toList.take 7 = [b[0]] := by
    rw [show b.data.toList.take 7 = b.data.toList.take 1 by rw [List.take_of_length_le (by simp; omega), List.take_of_length_le (by simp; omega)]]
    exact ba_list b 1 (by omega) _ rfl (by intro i hi; rcases i with _ | _ <;> first | rfl | omega)
  rw [getI, e, getZero_is]
  simp only [numL, List.foldr_cons, List.foldr_nil, Int.zero_mul, Int.zero_add]
set_option maxRecDepth 100000 in
theorem Get_1 (b : ByteArray) (h : b.size = 1) (w : World) :
    Calls Tryz.prog 134 #[.string b] w fun e w' => e = .returned (.int .i64 (getI b)) ∧ w' = w := by
  have HG := Lib.hid (getI_1 b h)
  go_enter Tryz.func134, Tryz.ntmps134
  go_wp2
  go_ret
  exact ⟨ret_i64 HG.out, rfl⟩
theorem getI_2 (b : ByteArray) (h : b.size = 2) : (getStep (getZero b[1]) b[0]) = getI b := by
  have e : b.data.toList.take 7 = [b[0], b[1]] := by
    rw [show b.data.toList.take 7 = b.data.toList.take 2 by rw [List.take_of_length_le (by simp; omega), List.take_of_length_le (by simp; omega)]]
    exact ba_list b 2 (by omega) _ rfl (by intro i hi; rcases i with _ | _ | _ <;> first | rfl | omega)
  rw [getI, e, getZero_is]
  exact getS_2 b[0] b[1]
set_option maxRecDepth 100000 in
theorem Get_2 (b : ByteArray) (h : b.size = 2) (w : World) :
    Calls Tryz.prog 134 #[.string b] w fun e w' => e = .returned (.int .i64 (getI b)) ∧ w' = w := by
  have HG := Lib.hid (getI_2 b h)
  go_enter Tryz.func134, Tryz.ntmps134
  go_wp2
  go_ret
  exact ⟨ret_i64 HG.out, rfl⟩
theorem getI_3 (b : ByteArray) (h : b.size = 3) : (getStep (getStep (getZero b[2]) b[1]) b[0]) = getI b := by
  have e : b.data.toList.take 7 = [b[0], b[1], b[2]] := by
    rw [show b.data.toList.take 7 = b.data.toList.take 3 by rw [List.take_of_length_le (by simp; omega), List.take_of_length_le (by simp; omega)]]
    exact ba_list b 3 (by omega) _ rfl (by intro i hi; rcases i with _ | _ | _ | _ <;> first | rfl | omega)
  rw [getI, e, getZero_is]
  exact getS_3 b[0] b[1] b[2]
set_option maxRecDepth 100000 in
theorem Get_3 (b : ByteArray) (h : b.size = 3) (w : World) :
    Calls Tryz.prog 134 #[.string b] w fun e w' => e = .returned (.int .i64 (getI b)) ∧ w' = w := by
  have HG := Lib.hid (getI_3 b h)
  go_enter Tryz.func134, Tryz.ntmps134
  go_wp2
  go_ret
  exact ⟨ret_i64 HG.out, rfl⟩
theorem getI_4 (b : ByteArray) (h : b.size = 4) : (getStep (getStep (getStep (getZero b[3]) b[2]) b[1]) b[0]) = getI b := by
  have e : b.data.toList.take 7 = [b[0], b[1], b[2], b[3]] := by
    rw [show b.data.toList.take 7 = b.data.toList.take 4 by rw [List.take_of_length_le (by simp; omega), List.take_of_length_le (by simp; omega)]]
    exact ba_list b 4 (by omega) _ rfl (by intro i hi; rcases i with _ | _ | _ | _ | _ <;> first | rfl | omega)
  rw [getI, e, getZero_is]
  exact getS_4 b[0] b[1] b[2] b[3]
set_option maxRecDepth 100000 in
theorem Get_4 (b : ByteArray) (h : b.size = 4) (w : World) :
    Calls Tryz.prog 134 #[.string b] w fun e w' => e = .returned (.int .i64 (getI b)) ∧ w' = w := by
  have HG := Lib.hid (getI_4 b h)
  go_enter Tryz.func134, Tryz.ntmps134
  go_wp2
  go_ret
  exact ⟨ret_i64 HG.out, rfl⟩
theorem getI_5 (b : ByteArray) (h : b.size = 5) : (getStep (getStep (getStep (getStep (getZero b[4]) b[3]) b[2]) b[1]) b[0]) = getI b := by
  have e : b.data.toList.take 7 = [b[0], b[1], b[2], b[3], b[4]] := by
    rw [show b.data.toList.take 7 = b.data.toList.take 5 by rw [List.take_of_length_le (by simp; omega), List.take_of_length_le (by simp; omega)]]
    exact ba_list b 5 (by omega) _ rfl (by intro i hi; rcases i with _ | _ | _ | _ | _ | _ <;> first | rfl | omega)
  rw [getI, e, getZero_is]
  exact getS_5 b[0] b[1] b[2] b[3] b[4]
set_option maxRecDepth 100000 in
theorem Get_5 (b : ByteArray) (h : b.size = 5) (w : World) :
    Calls Tryz.prog 134 #[.string b] w fun e w' => e = .returned (.int .i64 (getI b)) ∧ w' = w := by
  have HG := Lib.hid (getI_5 b h)
  go_enter Tryz.func134, Tryz.ntmps134
  go_wp2
  go_ret
  exact ⟨ret_i64 HG.out, rfl⟩
theorem getI_6 (b : ByteArray) (h : b.size = 6) : (getStep (getStep (getStep (getStep (getStep (getZero b[5]) b[4]) b[3]) b[2]) b[1]) b[0]) = getI b := by
  have e : b.data.toList.take 7 = [b[0], b[1], b[2], b[3], b[4], b[5]] := by
    rw [show b.data.toList.take 7 = b.data.toList.take 6 by rw [List.take_of_length_le (by simp; omega), List.take_of_length_le (by simp; omega)]]
    exact ba_list b 6 (by omega) _ rfl (by intro i hi; rcases i with _ | _ | _ | _ | _ | _ | _ <;> first | rfl | omega)
  rw [getI, e, getZero_is]
  exact getS_6 b[0] b[1] b[2] b[3] b[4] b[5]
set_option maxRecDepth 100000 in
theorem Get_6 (b : ByteArray) (h : b.size = 6) (w : World) :
    Calls Tryz.prog 134 #[.string b] w fun e w' => e = .returned (.int .i64 (getI b)) ∧ w' = w := by
  have HG := Lib.hid (getI_6 b h)
  go_enter Tryz.func134, Tryz.ntmps134
  go_wp2
  go_ret
  exact ⟨ret_i64 HG.out, rfl⟩
theorem getI_7 (b : ByteArray) (h : 7 ≤ b.size) : (getStep (getStep (getStep (getStep (getStep (getStep (wrap64 (b[6].toNat : Int)) b[5]) b[4]) b[3]) b[2]) b[1]) b[0]) = getI b := by
  have e : b.data.toList.take 7 = [b[0], b[1], b[2], b[3], b[4], b[5], b[6]] := by
    exact ba_list b 7 (by omega) _ rfl (by intro i hi; rcases i with _ | _ | _ | _ | _ | _ | _ | _ <;> first | rfl | omega)
  rw [getI, e, w64_u8]
  exact getS_7 b[0] b[1] b[2] b[3] b[4] b[5] b[6]
set_option maxRecDepth 100000 in
theorem Get_7 (b : ByteArray) (h : 7 ≤ b.size) (hs : b.size ≤ maxLen) (w : World) :
    Calls Tryz.prog 134 #[.string b] w fun e w' => e = .returned (.int .i64 (getI b)) ∧ w' = w := by
  have HG := Lib.hid (getI_7 b h)
  unfold maxLen at hs
  go_enter Tryz.func134, Tryz.ntmps134
  go_wp2
  go_ret
  exact ⟨ret_i64 HG.out, rfl⟩
set_option maxRecDepth 100000 in
theorem Get_0 (b : ByteArray) (h : b.size = 0) (w : World) :
    Calls Tryz.prog 134 #[.string b] w fun e w' => e = .returned (.int .i64 (getI b)) ∧ w' = w := by
  have HG := Lib.hid (show (0 : Int) = getI b by
    have e : b.data.toList = [] := List.eq_nil_of_length_eq_zero (by simpa using h)
    rw [getI, e]; rfl)
  go_enter Tryz.func134, Tryz.ntmps134
  go_wp2
  go_ret
  exact ⟨ret_i64 HG.out, rfl⟩
theorem Get_is (b : ByteArray) (hs : b.size ≤ maxLen) (w : World) :
    Calls Tryz.prog 134 #[.string b] w fun e w' => e = .returned (.int .i64 (getI b)) ∧ w' = w := by
  have : b.size = 0 ∨ b.size = 1 ∨ b.size = 2 ∨ b.size = 3 ∨ b.size = 4 ∨ b.size = 5 ∨ b.size = 6 ∨ 7 ≤ b.size := by omega
  rcases this with h | h | h | h | h | h | h | h
  · exact Get_0 b h w
  · exact Get_1 b h w
  · exact Get_2 b h w
  · exact Get_3 b h w
  · exact Get_4 b h w
  · exact Get_5 b h w
  · exact Get_6 b h w
  · exact Get_7 b h hs w

theorem drop_cons (l : List UInt8) (j : Nat) (h : j < l.length) : l.drop j = l[j] :: l.drop (j + 1) := List.drop_eq_getElem_cons h

end Go.Proofs.YtjengjmhjccnoaaGreatDoor
-- SealRPut
/- The document's own Put. -/
namespace Go.Proofs.YtjengjmhjccnoaaGreatDoor
open Go.RowKit

theorem sl_info {P : Program} {t : TypeId} {z : Value} {s b : Nat} (h : (P.info? t).map (fun i => (i.zero, i.size, i.bytes)) = some (some z, s, b)) : ∃ i, P.info? t = some i ∧ i.zero = some z ∧ i.size = s ∧ i.bytes = b := by
  cases hi : P.info? t with
  | none => rw [hi] at h; simp at h
  | some i => rw [hi] at h; simp at h; exact ⟨i, rfl, h.1, h.2.1, h.2.2⟩
theorem sl_u8Info : (Tryz.prog.info? 5).map (fun i => (i.zero, i.size, i.bytes)) = some (some (.int .u8 0), 1, 1) := by kernel_rfl
theorem mkBytes (u : World) (n : Nat) (hn : n ≤ 1000) : (Instr.makeSlice 128 (.int .i64 (n : Int)) (.int .i64 (n : Int))).run Tryz.prog u =
      .ok (.slice (some ⟨u.heap.size, 0, none⟩) n n) (u.alloc (.cells (Array.replicate n (.int .u8 0)) 5)) := by
  obtain ⟨i1, hi, hz0, hz1, hz2⟩ := sl_info sl_u8Info
  have h := run_make (P := Tryz.prog) u 128 5 i1 _ Tryz.underlying128 hi hz0 .i64 .i64 n n (by omega) (Int.le_refl _) (by rw [hz2]; omega) (by omega)
  simpa [hz1, Value.cells, show madeCells #[Value.int .u8 0] n = Array.replicate n (.int .u8 0) from by apply Array.ext <;> simp [madeCells, Nat.mod_one]] using h

/-- The cells of the first k bytes of n. -/
def putRow (v : Int) (n k : Nat) : Array Value := ((List.range n).map fun j => Value.int .u8 (if j < k then v / 256 ^ j % 256 else 0)).toArray
theorem putRow_size (v : Int) (n k : Nat) : (putRow v n k).size = n := by simp [putRow]
theorem putRow_zero (v : Int) (n : Nat) : Array.replicate n (.int .u8 0) = putRow v n 0 := by
  apply Array.ext <;> simp [putRow]

theorem putRow_at (v : Int) (n k : Nat) (h : k < n) : (putRow v n k)[k]? = some (.int .u8 0) := by
  simp [putRow, h]
theorem putNext (v : Int) (k : Nat) : v / 256 ^ (k + 1) = v / 256 ^ k / 256 := by
  rw [Int.pow_succ, Int.ediv_ediv_of_nonneg]
  exact Int.le_of_lt (Int.pow_pos (by decide))
theorem putBound (v : Int) (k : Nat) (h0 : 0 ≤ v) (h1 : v < 4294967296) : 0 ≤ v / 256 ^ k ∧ v / 256 ^ k < 4294967296 := by
  have hp : (0 : Int) < 256 ^ k := Int.pow_pos (by decide)
  exact ⟨Int.ediv_nonneg h0 (Int.le_of_lt hp), Int.lt_of_le_of_lt (Int.ediv_le_self _ h0) h1⟩
theorem putRow_next (v : Int) (n k : Nat) (h : k < n) : putRow v n (k + 1) = (putRow v n k).set! k (.int .u8 (v / 256 ^ k % 256)) := by
  apply Array.ext
  · simp [putRow]
  · intro i h1 h2
    by_cases hi : i = k
    · subst hi
      simp [putRow]
    · simp [putRow, Ne.symm hi, show (i < k + 1) = (i < k) from propext ⟨fun q => by omega, fun q => by omega⟩]
theorem and255 (x : Int) (h0 : 0 ≤ x) (h1 : x < 4294967296) : bits BinOp.and IntKind.i64 x 255 % 256 = x % 256 := by
  obtain ⟨X, rfl⟩ := Int.eq_ofNat_of_zero_le h0
  show IntKind.i64.wrap ((BitVec.ofInt 64 (X : Int) &&& BitVec.ofInt 64 ((255 : Nat) : Int)).toNat : Int) % 256 = _
  rw [BitVec.toNat_and, ofInt_u64 _ (by omega), ofInt_u64 _ (by omega), nat_mask8, IntKind.wrap_i64]
  omega

end Go.Proofs.YtjengjmhjccnoaaGreatDoor
-- SealSeal
/- Seal and Open, the project's and the document's own. -/
namespace Go.Proofs.YtjengjmhjccnoaaGreatDoor
open Go.RowKit

def zeros (k : Nat) : ByteArray := ⟨Array.replicate k 0⟩
theorem zeros_size (k : Nat) : (zeros k).size = k := by simp [zeros, ByteArray.size]
def sealBody (b : ByteArray) (n : Nat) : ByteArray := b ++ zeros (n - 4 - b.size)
def sealB (b : ByteArray) (n : Nat) : ByteArray := sealBody b n ++ putS (sumI (sealBody b n).data.toList) 4
def sealS (b : ByteArray) (n : Int) : ByteArray := if 4 ≤ n ∧ n ≤ 200 ∧ (b.size : Int) ≤ n - 4 then sealB b n.toNat else ByteArray.empty
theorem sealBody_size (b : ByteArray) (n : Nat) (h : b.size ≤ n - 4) : (sealBody b n).size = n - 4 := by
  rw [sealBody, ByteArray.size_append, zeros_size]; omega

theorem rep_zeros (c : Nat) (h1 : c ≤ 1000) (w : World) :
    Calls Tryz.prog 130 #[.string ⟨#[0]⟩, .int .i64 (c : Int)] w fun e w' => e = .returned (.string (zeros c)) ∧ Below w.heap.size w w' := by
  refine (Tryz.strings_Repeat ⟨#[0]⟩ c w (by omega) (by show 1 * c ≤ _; omega)).mono ?_
  rintro e w' ⟨rfl, hb⟩
  refine ⟨?_, hb⟩
  have : ∀ c : Nat, Lib.repeatL [(0 : UInt8)] c = List.replicate c 0 := fun c => by
    induction c with
    | zero => rfl
    | succ c ih => simp [Lib.repeatL, List.replicate_succ] at ih ⊢; try exact ih
  refine ret_str ?_
  show ByteArray.mk (Lib.repeatL [(0 : UInt8)] c).toArray = _
  rw [this]
  simp [zeros]

theorem sealBody_def (b : ByteArray) (n c : Nat) (h : c = n - 4 - b.size) : b ++ zeros c = sealBody b n := by rw [sealBody, h]
set_option maxRecDepth 100000 in
theorem Seal_in (b : ByteArray) (n : Nat) (h0 : 4 ≤ n) (h1 : n ≤ 200) (h2 : b.size ≤ n - 4) (w : World) :
    Calls Tryz.prog 108 #[.string b, .int .i64 (n : Int)] w fun e w' => e = .returned (.string (sealB b n)) ∧ Below w.heap.size w w' := by
  have h3 : (b.size : Int) ≤ (n : Int) - 4 := by omega
  have hc : ∃ c : Nat, c = n - 4 - b.size := ⟨n - 4 - b.size, rfl⟩
  obtain ⟨c, hc2⟩ := hc
  have hc : (n : Int) - 4 - (b.size : Int) = (c : Int) := by omega
  have hcs : c ≤ 200 := by omega
  have HC := Lib.hid hc2
  have HB := Lib.hid (show b ++ zeros c = sealBody b n from sealBody_def b n c hc2)
  have hbs := sealBody_size b n h2
  have HS := Lib.hid hbs
  have hzb : b.size + (zeros c).size ≤ 9223372036854775807 := by rw [zeros_size]; omega
  clear hc2 hbs
  go_enter Tryz.func108, Tryz.ntmps108
  go_wp2_with (go_at_call 130; refine (rep_zeros c (by omega) _).mono ?_; rintro e w1 ⟨rfl, b1⟩)
  rw [HB.out]
  have hr := sumI_range (sealBody b n).data.toList
  obtain ⟨hr0, hr1⟩ := hr
  have HM := Lib.hid (show (sealBody b n).size ≤ maxLen by rw [HS.out]; unfold maxLen; omega)
  have htb : (sealBody b n).size + (putS (sumI (sealBody b n).data.toList) 4).size ≤ 9223372036854775807 := by
    rw [HS.out, show putS (sumI (sealBody b n).data.toList) 4 = putB (sumI (sealBody b n).data.toList) 4 from if_pos ⟨hr0, hr1, by omega, by omega⟩, putB_size]; omega
  have HE := Lib.hid (show sealB b n = sealBody b n ++ putS (sumI (sealBody b n).data.toList) 4 from rfl)
  generalize sealBody b n = t at *
  refine (Sum_is t _ HM.out).mono ?_
  rintro e w2 ⟨rfl, rfl⟩
  generalize sumI t.data.toList = x at *
  go_wp2_with (go_at_call 110; refine (Put_is x 4 _).mono ?_; rintro e w3 ⟨rfl, b3⟩)
  go_ret
  exact ⟨ret_str HE.out.symm, b1.trans (b3.mono b1.size)⟩

set_option maxRecDepth 100000 in
theorem Seal_out (b : ByteArray) (n : Int) (hb : b.size ≤ maxLen) (h : ¬ (4 ≤ n ∧ n ≤ 200 ∧ (b.size : Int) ≤ n - 4)) (w : World) :
    Calls Tryz.prog 108 #[.string b, .int .i64 n] w fun e w' => e = .returned (.string ByteArray.empty) ∧ Below w.heap.size w w' := by
  unfold maxLen at hb
  have : n < 4 ∨ 200 < n ∨ (4 ≤ n ∧ n ≤ 200 ∧ n - 4 < (b.size : Int)) := by omega
  clear h
  rcases this with h | h | ⟨h1, h2, h3⟩
  all_goals
    go_enter Tryz.func108, Tryz.ntmps108
    go_wp2
    all_goals
      go_ret
      exact ⟨rfl, Below.refl _ _⟩
theorem Seal_is (b : ByteArray) (n : Int) (hb : b.size ≤ maxLen) (w : World) :
    Calls Tryz.prog 108 #[.string b, .int .i64 n] w fun e w' => e = .returned (.string (sealS b n)) ∧ Below w.heap.size w w' := by
  by_cases h : 4 ≤ n ∧ n ≤ 200 ∧ (b.size : Int) ≤ n - 4
  · rw [show sealS b n = sealB b n.toNat from if_pos h]
    obtain ⟨h0, h1, h2⟩ := h
    obtain ⟨m, rfl⟩ := Int.eq_ofNat_of_zero_le (show 0 ≤ n by omega)
    exact Seal_in b m (by omega) (by omega) (by omega) w
  · rw [show sealS b n = ByteArray.empty from if_neg h]
    exact Seal_out b n hb h w

theorem conv_zeros (w : World) (c : Nat) :
    (convert 128 9 (.slice (some ⟨w.heap.size, 0, none⟩) c c)).run Tryz.prog (w.alloc (.cells (Array.replicate c (.int .u8 0)) 5)) = .ok (.string (zeros c)) (w.alloc (.cells (Array.replicate c (.int .u8 0)) 5)) := by
  have := conv_cells w 5 (Array.replicate c (.int .u8 0)) (List.replicate c 0) c c (by simp) (fun i hi => by simp [hi])
  rw [this]
  simp [strOfNums, zeros]
end Go.Proofs.YtjengjmhjccnoaaGreatDoor
-- SealROpen
/- Open, the document's own: what is opened, and what comes of it. -/
namespace Go.Proofs.YtjengjmhjccnoaaGreatDoor
open Go.RowKit

theorem bel_draws (B : Nat) (w : World) (n : Nat) : Below B w (w.drewN n) := ⟨rfl, rfl, rfl, Nat.le_refl _, fun _ _ => rfl⟩
def bodyOf (b : ByteArray) : ByteArray := b.extract 0 (b.size - 4)
def tailOf (b : ByteArray) : ByteArray := b.extract (b.size - 4) b.size
/-- Is it opened? -/
def opens (b : ByteArray) : Bool := decide (4 ≤ b.size ∧ getI (tailOf b) = sumI (bodyOf b).data.toList)
def openS (b : ByteArray) : ByteArray := if opens b = true then bodyOf b else ByteArray.empty
theorem bodyOf_size (b : ByteArray) : (bodyOf b).size = b.size - 4 := by simp [bodyOf, ByteArray.size_extract]
theorem tailOf_size (b : ByteArray) (h : 4 ≤ b.size) : (tailOf b).size = 4 := by simp [tailOf, ByteArray.size_extract]; omega
theorem getI_range (b : ByteArray) : 0 ≤ getI b ∧ getI b < 72057594037927936 := by
  refine ⟨numL_nonneg _, ?_⟩
  have := numL_lt (b.data.toList.take 7) 7 (List.length_take_le _ _)
  exact this
theorem opens_no (b : ByteArray) (h : ¬ (4 ≤ b.size ∧ getI (tailOf b) = sumI (bodyOf b).data.toList)) : opens b = false ∧ openS b = ByteArray.empty := by
  have : opens b = false := decide_eq_false h
  exact ⟨this, by rw [openS, this]; rfl⟩
theorem opens_yes (b : ByteArray) (h : 4 ≤ b.size ∧ getI (tailOf b) = sumI (bodyOf b).data.toList) : opens b = true ∧ openS b = bodyOf b := by
  have : opens b = true := decide_eq_true h
  exact ⟨this, by rw [openS, this]; rfl⟩

theorem open_facts (b : ByteArray) (h0 : 4 ≤ b.size) (h1 : b.size ≤ 281474976710656) : ((bodyOf b).size ≤ 281474976710656 ∧ (bodyOf b).size ≤ maxLen) ∧ (tailOf b).size ≤ maxLen := by
  rw [bodyOf_size, tailOf_size b h0]
  unfold maxLen
  omega
end Go.Proofs.YtjengjmhjccnoaaGreatDoor
-- SealMath
/- What is sealed is opened; one byte turned it is not. Plain lemmas on lists and strings. -/
namespace Go.Proofs.YtjengjmhjccnoaaGreatDoor
open Go.RowKit

theorem ba_ext {a b : ByteArray} (h : a.data.toList = b.data.toList) : a = b := by
  cases a; cases b; simp at h; simp [h]
theorem ba_append (a b : ByteArray) : (a ++ b).data.toList = a.data.toList ++ b.data.toList := by simp
theorem ba_len (a : ByteArray) : a.data.toList.length = a.size := by simp
theorem body_list (b : ByteArray) : (bodyOf b).data.toList = b.data.toList.take (b.size - 4) := by
  simp [bodyOf, ByteArray.data_extract]
theorem tail_list (b : ByteArray) : (tailOf b).data.toList = b.data.toList.drop (b.size - 4) := by
  simp [tailOf, ByteArray.data_extract]
  rw [List.take_of_length_le (by simp)]
theorem body_append (t s : ByteArray) (h : s.size = 4) : bodyOf (t ++ s) = t := by
  apply ba_ext
  rw [body_list, ba_append, ByteArray.size_append, h, Nat.add_sub_cancel, ← ba_len t, List.take_left']
  rfl
theorem tail_append (t s : ByteArray) (h : s.size = 4) : tailOf (t ++ s) = s := by
  apply ba_ext
  rw [tail_list, ba_append, ByteArray.size_append, h, Nat.add_sub_cancel, ← ba_len t, List.drop_left']
  rfl

theorem ofNat_mod (x : Int) : ((UInt8.ofNat (x % 256).toNat).toNat : Int) = x % 256 := by
  rw [UInt8.toNat_ofNat']
  omega
theorem strOf_list (xs : List Int) : (strOfNums xs).data.toList = xs.map fun n => UInt8.ofNat n.toNat := rfl
theorem getI_short (b : ByteArray) (h : b.size ≤ 7) : getI b = numL b.data.toList := by
  rw [getI, List.take_of_length_le (by rw [ba_len]; exact h)]
theorem mod_stepN (V Z : Nat) : V / 256 % Z * 256 + V % 256 = V % (256 * Z) := by
  rw [Nat.mod_mul]
  generalize V / 256 % Z = q
  omega
theorem mod_step (v : Int) (n : Nat) (hv : 0 ≤ v) : v / 256 % 256 ^ n * 256 + v % 256 = v % (256 * 256 ^ n) := by
  obtain ⟨V, rfl⟩ := Int.eq_ofNat_of_zero_le hv
  have hp : (256 : Int) ^ n = ((256 ^ n : Nat) : Int) := by rw [Int.natCast_pow]; rfl
  rw [hp]
  generalize (256 : Nat) ^ n = Z
  exact congrArg Int.ofNat (mod_stepN V Z)
theorem numL_put (v : Int) (h0 : 0 ≤ v) : ∀ (n : Nat), numL ((putL v n).map fun n => UInt8.ofNat n.toNat) = v % 256 ^ n := by
  have key : ∀ (n : Nat) (v : Int), 0 ≤ v → numL (((List.range n).map fun k => v / 256 ^ k % 256).map fun n => UInt8.ofNat n.toNat) = v % 256 ^ n := by
    intro n
    induction n with
    | zero => intro v _; simp [numL, Int.emod_one]
    | succ n ih =>
      intro v hv
      rw [List.range_succ_eq_map, List.map_cons, List.map_cons, numL_cons, ofNat_mod]
      have e : ((fun k => v / 256 ^ k % 256) ∘ Nat.succ) = fun k : Nat => (v / 256) / 256 ^ k % 256 := by
        funext k
        show v / 256 ^ (k + 1) % 256 = _
        rw [Int.pow_succ, Int.mul_comm, Int.ediv_ediv_of_nonneg (by decide)]
      have e' : List.map (fun k => v / 256 ^ k % 256) (List.map Nat.succ (List.range n)) = (List.range n).map fun k : Nat => (v / 256) / 256 ^ k % 256 := by rw [List.map_map, e]
      rw [e', ih (v / 256) (Int.ediv_nonneg hv (by decide)), Int.pow_zero, Int.ediv_one, Int.pow_succ, Int.mul_comm ((256 : Int) ^ n) 256]
      exact mod_step v n hv
  exact fun n => key n v h0
theorem getI_put (v : Int) (n : Nat) (h0 : 0 ≤ v) (h1 : v < 4294967296) (h4 : 4 ≤ n) (h7 : n ≤ 7) : getI (putB v n) = v := by
  rw [getI_short _ (by rw [putB_size]; exact h7), putB, strOf_list, numL_put v h0 n]
  have : n = 4 ∨ n = 5 ∨ n = 6 ∨ n = 7 := by omega
  refine Int.emod_eq_of_lt h0 (Int.lt_of_lt_of_le h1 ?_)
  rcases this with rfl | rfl | rfl | rfl <;> decide
theorem putS_4 (v : Int) (h0 : 0 ≤ v) (h1 : v < 4294967296) : putS v 4 = putB v 4 := if_pos ⟨h0, h1, by omega, by omega⟩
/-- What has its sum behind it is opened. -/
theorem sum_opens (t : ByteArray) : opens (t ++ putS (sumI t.data.toList) 4) = true ∧ openS (t ++ putS (sumI t.data.toList) 4) = t := by
  have hr := sumI_range t.data.toList
  have hs : (putS (sumI t.data.toList) 4).size = 4 := by rw [putS_4 _ hr.1 hr.2, putB_size]
  have := opens_yes (t ++ putS (sumI t.data.toList) 4) ⟨by rw [ByteArray.size_append, hs]; omega, by
    rw [tail_append _ _ hs, body_append _ _ hs, putS_4 _ hr.1 hr.2, getI_put _ 4 hr.1 hr.2 (by omega) (by omega)]⟩
  rw [body_append _ _ hs] at this
  exact this
theorem sealB_opens (b : ByteArray) (n : Nat) : opens (sealB b n) = true ∧ openS (sealB b n) = sealBody b n := sum_opens _
theorem sealB_size (b : ByteArray) (n : Nat) (h4 : 4 ≤ n) (h : b.size ≤ n - 4) : (sealB b n).size = n := by
  have hr := sumI_range (sealBody b n).data.toList
  rw [sealB, ByteArray.size_append, putS_4 _ hr.1 hr.2, putB_size, sealBody_size b n h]
  omega

theorem numL_inj : ∀ (a b : List UInt8), a.length = b.length → numL a = numL b → a = b
  | [], [], _, _ => rfl
  | [], _ :: _, h, _ => by simp at h
  | _ :: _, [], h, _ => by simp at h
  | x :: a, y :: b, h, e => by
    rw [numL_cons, numL_cons] at e
    have hx := u8_lt x
    have hy := u8_lt y
    have e1 : x.toNat = y.toNat := by omega
    have e2 : numL a = numL b := by omega
    rw [numL_inj a b (by simpa using h) e2, UInt8.toNat_inj.1 e1]
theorem set_split (l : List UInt8) (k : Nat) (h : k < l.length) (c : UInt8) : l.set k c = l.take k ++ c :: l.drop (k + 1) := by
  rw [List.set_eq_take_append_cons_drop, if_pos h]
theorem self_split (l : List UInt8) (k : Nat) (h : k < l.length) : l = l.take k ++ l[k] :: l.drop (k + 1) := by
  rw [← List.drop_eq_getElem_cons h, List.take_append_drop]
theorem sum_set (m : List UInt8) (k : Nat) (hk : k < m.length) (c : UInt8) (h : sumI (m.set k c) = sumI m) : c = m[k] := by
  rw [set_split m k hk c] at h
  exact sumI_turned _ _ (h.trans (congrArg sumI (self_split m k hk)))
theorem num_set (m : List UInt8) (k : Nat) (hk : k < m.length) (c : UInt8) (h : numL (m.set k c) = numL m) : c = m[k] := by
  have e := numL_inj _ _ (by simp) h
  have : (m.set k c)[k]? = m[k]? := by rw [e]
  simpa [hk] using this
/-- One byte turned: it is not opened. -/
theorem turned_not (s : ByteArray) (hs : opens s = true) (k : Nat) (hk : k < s.size) (c : UInt8) (hc : c ≠ s[k]) (s' : ByteArray) (h' : s'.data.toList = s.data.toList.set k c) : opens s' = false := by
  have hsz : s'.size = s.size := by rw [← ba_len, h', List.length_set, ba_len]
  have ho : 4 ≤ s.size ∧ getI (tailOf s) = sumI (bodyOf s).data.toList := of_decide_eq_true hs
  obtain ⟨h4, he⟩ := ho
  have hl : k < s.data.toList.length := by rw [ba_len]; exact hk
  have hck : s.data.toList[k] = s[k] := by simp [ByteArray.getElem_eq_getElem_data]
  refine (opens_no s' ?_).1
  rintro ⟨_, he'⟩
  rw [getI_short _ (by rw [tailOf_size s h4]; omega), tail_list, body_list] at he
  rw [getI_short _ (by rw [tailOf_size s' (by omega)]; omega), tail_list, body_list, hsz, h', List.take_set, List.drop_set] at he'
  by_cases hk4 : k < s.size - 4
  · rw [if_pos hk4, he] at he'
    have hlt : k < (s.data.toList.take (s.size - 4)).length := by rw [List.length_take, ba_len]; omega
    have := sum_set _ k hlt c he'.symm
    rw [List.getElem_take, hck] at this
    exact hc this
  · rw [if_neg hk4, List.set_eq_of_length_le (l := List.take (s.size - 4) s.data.toList) (by rw [List.length_take]; omega), ← he] at he'
    have hlt : k - (s.size - 4) < (s.data.toList.drop (s.size - 4)).length := by rw [List.length_drop, ba_len]; omega
    have := num_set _ _ hlt c he'
    rw [List.getElem_drop] at this
    refine hc (this.trans ?_)
    rw [← hck]
    congr 1
    omega
/-- Two texts of one length are sealed alike just if they are the same. -/
theorem sealB_two (a b : ByteArray) (n : Nat) (h : a.size = b.size) : sealB a n = sealB b n ↔ a = b := by
  constructor
  · intro e
    have : sealBody a n = sealBody b n := by rw [← (sealB_opens a n).2, e, (sealB_opens b n).2]
    unfold sealBody at this
    apply ba_ext
    have l := congrArg (fun z : ByteArray => z.data.toList) this
    simp only [ba_append] at l
    exact (List.append_inj l (by rw [ba_len, ba_len, h])).1
  · intro e; rw [e]
/-- A body: the text, then zeros. -/
theorem sealBody_head (b : ByteArray) (n : Nat) : (sealBody b n).extract 0 b.size = b := by
  apply ba_ext
  simp only [sealBody, ByteArray.data_extract, Array.toList_extract, List.extract_eq_take_drop, ba_append, List.drop_zero, Nat.sub_zero]
  rw [← ba_len b, List.take_left']
  rfl
theorem sealBody_zero (b : ByteArray) (n i : Nat) (h : b.size ≤ i) (hi : i < (sealBody b n).size) : (sealBody b n)[i] = 0 := by
  have hl : i < (sealBody b n).data.toList.length := by rw [ba_len]; exact hi
  have : (sealBody b n).data.toList[i] = 0 := by
    simp only [sealBody, ba_append]
    rw [List.getElem_append_right (by rw [ba_len]; exact h)]
    simp [zeros]
  simpa [ByteArray.getElem_eq_getElem_data] using this
end Go.Proofs.YtjengjmhjccnoaaGreatDoor
