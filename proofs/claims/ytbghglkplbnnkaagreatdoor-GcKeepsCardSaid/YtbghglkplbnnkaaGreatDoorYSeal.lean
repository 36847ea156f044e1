import Derived.Test.YtbghglkplbnnkaaGreatDoorProg
import Derived.WalkKit
import Derived.ProofKit
import Derived.Lib.Hide
import Derived.Laws.BitsAllLaws
import Derived.Laws.BytesArg
import Derived.Deep.QuietTactic
import Derived.BigQuiet
import Derived.Test.YtbghglkplbnnkaaGreatDoorYShelf
set_option linter.unusedVariables false
set_option linter.unusedSimpArgs false
-- SealSum
namespace Go.Proofs.YtbghglkplbnnkaaGreatDoor
open Go.RowKit

def sumStep (x : Int) (c : UInt8) : Int := bits .xor .u32 x ((c.toNat : Int) % 4294967296) * 16777619 % 4294967296
def sumI (l : List UInt8) : Int := l.foldl sumStep 2166136261
theorem sumStep_range (x : Int) (c : UInt8) : 0 ≤ sumStep x c ∧ sumStep x c < 4294967296 := by unfold sumStep; omega
theorem sumI_snoc (l : List UInt8) (c : UInt8) : sumI (l ++ [c]) = sumStep (sumI l) c := by simp [sumI]
theorem sumI_range (l : List UInt8) : 0 ≤ sumI l ∧ sumI l < 4294967296 := by
  rcases List.eq_nil_or_concat l with rfl | ⟨l, c, rfl⟩
  · decide
  · rw [List.concat_eq_append, sumI_snoc]; exact sumStep_range _ _
theorem u8_lt (c : UInt8) : c.toNat < 256 := c.toNat_lt
theorem ba_take_snoc (s : ByteArray) (k : Nat) (h : k < s.size) : s.data.toList.take (k + 1) = s.data.toList.take k ++ [s[k]] := by
  rw [List.take_succ_eq_append_getElem (by simpa using h)]; rfl
theorem sum_end (b : ByteArray) : sumI (b.data.toList.take b.size) = sumI b.data.toList := by rw [List.take_of_length_le (by simp)]
theorem ret_u32 {a b : Int} (h : a = b) : Ending.returned (.int .u32 a) = .returned (.int .u32 b) := by rw [h]
theorem val_u32 {a b : Int} (h : a = b) : Value.int .u32 a = .int .u32 b := by rw [h]

set_option maxRecDepth 100000 in
theorem Sum_is (b : ByteArray) (w : World) (hb : b.size ≤ maxLen) :
    Calls Tryz.prog 164 #[.string b] w fun e w' => e = .returned (.int .u32 (sumI b.data.toList)) ∧ w' = w := by
  unfold maxLen at hb
  go_enter Tryz.func164, Tryz.ntmps164
  go_wp2
  go_loop [3, 7] (fun s i => ∃ (k : Nat), k ≤ b.size ∧ i = .int .i64 (k : Int) ∧ s = .int .u32 (sumI (b.data.toList.take k))) (fun _ i => b.size - (intOf i).toNat)
  case atStart => exact ⟨0, Nat.zero_le _, rfl, rfl⟩
  case round =>
    obtain ⟨k, hk, rfl, rfl⟩ := hrel
    by_cases hlt : k < b.size
    · have HS := Lib.hid (show sumI (b.data.toList.take (k + 1)) = sumStep (sumI (b.data.toList.take k)) b[k] by rw [ba_take_snoc b k hlt, sumI_snoc])
      generalize sumI (b.data.toList.take k) = x at *
      go_wp2
      exact ⟨⟨k + 1, by omega, by go_num, val_u32 (by rw [HS.out]; rfl)⟩, by simp [intOf]; omega⟩
    · obtain rfl : k = b.size := by omega
      have HS := Lib.hid (sum_end b)
      generalize sumI (b.data.toList.take b.size) = x at *
      clear hlt hk
      go_wp2
      go_ret
      exact ⟨ret_u32 HS.out, rfl⟩
end Go.Proofs.YtbghglkplbnnkaaGreatDoor
-- SealPut
namespace Go.Proofs.YtbghglkplbnnkaaGreatDoor
open Go.RowKit

def putL (v : Int) (n : Nat) : List Int := (List.range n).map fun k => v / 256 ^ k % 256
def putB (v : Int) (n : Nat) : ByteArray := strOfNums (putL v n)
theorem putL_len (v : Int) (n : Nat) : (putL v n).length = n := by simp [putL]
theorem putB_size (v : Int) (n : Nat) : (putB v n).size = n := by rw [putB, strOfNums_size, putL_len]
def putS (v n : Int) : ByteArray := if 0 ≤ v ∧ v < 4294967296 ∧ 1 ≤ n ∧ n ≤ 8 then putB v n.toNat else ByteArray.empty

theorem conv_cells (w : World) (t : TypeId) (cs : Array Value) (xs : List Int) (n c : Nat) (hn : xs.length = n) (hx : ∀ i, i < n → cs[i]? = some (.int .u8 (xs.getD i 0))) :
    (convert 178 9 (.slice (some ⟨w.heap.size, 0, none⟩) n c)).run Tryz.prog (w.alloc (.cells cs t)) = .ok (.string (strOfNums xs)) (w.alloc (.cells cs t)) := by
  refine run_convert_bytes_arg _ 178 5 (by kernel_rfl) (by kernel_rfl) w.heap.size 0 n c xs hn (fun i hi => ?_) 9 (by kernel_rfl)
  rw [Nat.zero_add, World.cell?_alloc_new]
  exact hx i hi
theorem ret_str {a b : ByteArray} (h : a = b) : Ending.returned (.string a) = .returned (.string b) := by rw [h]

set_option maxRecDepth 100000 in
theorem Put_out (v n : Int) (h : ¬ (0 ≤ v ∧ v < 4294967296 ∧ 1 ≤ n ∧ n ≤ 8)) (w : World) :
    Calls Tryz.prog 149 #[.int .i64 v, .int .i64 n] w fun e w' => e = .returned (.string ByteArray.empty) ∧ Below w.heap.size w w' := by
  by_cases h0 : v < 0 ∨ 4294967296 ≤ v
  · clear h
    rcases h0 with h0 | h0
    all_goals
      go_enter Tryz.func149, Tryz.ntmps149
      go_wp2
      all_goals
        go_ret
        exact ⟨rfl, Below.refl _ _⟩
  · have hn : n < 1 ∨ 8 < n := by omega
    have h1 : 0 ≤ v := by omega
    have h2 : v < 4294967296 := by omega
    clear h h0
    rcases hn with hn | hn
    all_goals
      go_enter Tryz.func149, Tryz.ntmps149
      go_wp2
      all_goals
        go_ret
        exact ⟨rfl, (Below.refl _ _).alloc (Nat.le_refl _) _⟩

theorem putL_1 (v : Int) (_h0 : 0 ≤ v) (_h1 : v < 4294967296) : [v % 256] = putL v 1 := by
  simp [putL, List.range, List.range.loop]
  try omega
set_option maxRecDepth 100000 in
theorem Put_1 (v : Int) (h0 : 0 ≤ v) (h1 : v < 4294967296) (w : World) :
    Calls Tryz.prog 149 #[.int .i64 v, .int .i64 1] w fun e w' => e = .returned (.string (putB v 1)) ∧ Below w.heap.size w w' := by
  have HL := Lib.hid (putL_1 v h0 h1)
  have hcv : ∀ (t : TypeId) (cs : Array Value), (∀ i, i < 1 → cs[i]? = some (.int .u8 (([v % 256] : List Int).getD i 0))) → (convert 178 9 (.slice (some ⟨w.heap.size, 0, none⟩) 1 8)).run Tryz.prog (w.alloc (.cells cs t)) = .ok (.string (strOfNums [v % 256])) (w.alloc (.cells cs t)) :=
    fun t cs hx => conv_cells w t cs _ 1 8 rfl hx
  have HC := Lib.hid hcv
  clear hcv
  go_enter Tryz.func149, Tryz.ntmps149
  go_wp2_with fail
  rw [HC.out _ _ (by intro i hi; rcases i with _ | _ | _ | _ | _ | _ | _ | _ | _ <;> first | rfl | omega)]
  go_wp2
  go_ret
  exact ⟨ret_str (by rw [HL.out]; rfl), (Below.refl _ _).alloc (Nat.le_refl _) _⟩
theorem putL_2 (v : Int) (_h0 : 0 ≤ v) (_h1 : v < 4294967296) : [v % 256, v / 256 % 256] = putL v 2 := by
  simp [putL, List.range, List.range.loop]
  try omega
set_option maxRecDepth 100000 in
theorem Put_2 (v : Int) (h0 : 0 ≤ v) (h1 : v < 4294967296) (w : World) :
    Calls Tryz.prog 149 #[.int .i64 v, .int .i64 2] w fun e w' => e = .returned (.string (putB v 2)) ∧ Below w.heap.size w w' := by
  have HL := Lib.hid (putL_2 v h0 h1)
  have hcv : ∀ (t : TypeId) (cs : Array Value), (∀ i, i < 2 → cs[i]? = some (.int .u8 (([v % 256, v / 256 % 256] : List Int).getD i 0))) → (convert 178 9 (.slice (some ⟨w.heap.size, 0, none⟩) 2 8)).run Tryz.prog (w.alloc (.cells cs t)) = .ok (.string (strOfNums [v % 256, v / 256 % 256])) (w.alloc (.cells cs t)) :=
    fun t cs hx => conv_cells w t cs _ 2 8 rfl hx
  have HC := Lib.hid hcv
  clear hcv
  go_enter Tryz.func149, Tryz.ntmps149
  go_wp2_with fail
  rw [HC.out _ _ (by intro i hi; rcases i with _ | _ | _ | _ | _ | _ | _ | _ | _ <;> first | rfl | omega)]
  go_wp2
  go_ret
  exact ⟨ret_str (by rw [HL.out]; rfl), (Below.refl _ _).alloc (Nat.le_refl _) _⟩
theorem putL_3 (v : Int) (_h0 : 0 ≤ v) (_h1 : v < 4294967296) : [v % 256, v / 256 % 256, v / 65536 % 256] = putL v 3 := by
  simp [putL, List.range, List.range.loop]
  try omega
set_option maxRecDepth 100000 in
theorem Put_3 (v : Int) (h0 : 0 ≤ v) (h1 : v < 4294967296) (w : World) :
    Calls Tryz.prog 149 #[.int .i64 v, .int .i64 3] w fun e w' => e = .returned (.string (putB v 3)) ∧ Below w.heap.size w w' := by
  have HL := Lib.hid (putL_3 v h0 h1)
  have hcv : ∀ (t : TypeId) (cs : Array Value), (∀ i, i < 3 → cs[i]? = some (.int .u8 (([v % 256, v / 256 % 256, v / 65536 % 256] : List Int).getD i 0))) → (convert 178 9 (.slice (some ⟨w.heap.size, 0, none⟩) 3 8)).run Tryz.prog (w.alloc (.cells cs t)) = .ok (.string (strOfNums [v % 256, v / 256 % 256, v / 65536 % 256])) (w.alloc (.cells cs t)) :=
    fun t cs hx => conv_cells w t cs _ 3 8 rfl hx
  have HC := Lib.hid hcv
  clear hcv
  go_enter Tryz.func149, Tryz.ntmps149
  go_wp2_with fail
  rw [HC.out _ _ (by intro i hi; rcases i with _ | _ | _ | _ | _ | _ | _ | _ | _ <;> first | rfl | omega)]
  go_wp2
  go_ret
  exact ⟨ret_str (by rw [HL.out]; rfl), (Below.refl _ _).alloc (Nat.le_refl _) _⟩
theorem putL_4 (v : Int) (_h0 : 0 ≤ v) (_h1 : v < 4294967296) : [v % 256, v / 256 % 256, v / 65536 % 256, v / 16777216] = putL v 4 := by
  simp [putL, List.range, List.range.loop]
  try omega
set_option maxRecDepth 100000 in
theorem Put_4 (v : Int) (h0 : 0 ≤ v) (h1 : v < 4294967296) (w : World) :
    Calls Tryz.prog 149 #[.int .i64 v, .int .i64 4] w fun e w' => e = .returned (.string (putB v 4)) ∧ Below w.heap.size w w' := by
  have HL := Lib.hid (putL_4 v h0 h1)
  have hcv : ∀ (t : TypeId) (cs : Array Value), (∀ i, i < 4 → cs[i]? = some (.int .u8 (([v % 256, v / 256 % 256, v / 65536 % 256, v / 16777216] : List Int).getD i 0))) → (convert 178 9 (.slice (some ⟨w.heap.size, 0, none⟩) 4 8)).run Tryz.prog (w.alloc (.cells cs t)) = .ok (.string (strOfNums [v % 256, v / 256 % 256, v / 65536 % 256, v / 16777216])) (w.alloc (.cells cs t)) :=
    fun t cs hx => conv_cells w t cs _ 4 8 rfl hx
  have HC := Lib.hid hcv
  clear hcv
  go_enter Tryz.func149, Tryz.ntmps149
  go_wp2_with fail
  rw [HC.out _ _ (by intro i hi; rcases i with _ | _ | _ | _ | _ | _ | _ | _ | _ <;> first | rfl | omega)]
  go_wp2
  go_ret
  exact ⟨ret_str (by rw [HL.out]; rfl), (Below.refl _ _).alloc (Nat.le_refl _) _⟩
theorem putL_5 (v : Int) (_h0 : 0 ≤ v) (_h1 : v < 4294967296) : [v % 256, v / 256 % 256, v / 65536 % 256, v / 16777216, 0] = putL v 5 := by
  simp [putL, List.range, List.range.loop]
  try omega
set_option maxRecDepth 100000 in
theorem Put_5 (v : Int) (h0 : 0 ≤ v) (h1 : v < 4294967296) (w : World) :
    Calls Tryz.prog 149 #[.int .i64 v, .int .i64 5] w fun e w' => e = .returned (.string (putB v 5)) ∧ Below w.heap.size w w' := by
  have HL := Lib.hid (putL_5 v h0 h1)
  have hcv : ∀ (t : TypeId) (cs : Array Value), (∀ i, i < 5 → cs[i]? = some (.int .u8 (([v % 256, v / 256 % 256, v / 65536 % 256, v / 16777216, 0] : List Int).getD i 0))) → (convert 178 9 (.slice (some ⟨w.heap.size, 0, none⟩) 5 8)).run Tryz.prog (w.alloc (.cells cs t)) = .ok (.string (strOfNums [v % 256, v / 256 % 256, v / 65536 % 256, v / 16777216, 0])) (w.alloc (.cells cs t)) :=
    fun t cs hx => conv_cells w t cs _ 5 8 rfl hx
  have HC := Lib.hid hcv
  clear hcv
  go_enter Tryz.func149, Tryz.ntmps149
  go_wp2_with fail
  rw [HC.out _ _ (by intro i hi; rcases i with _ | _ | _ | _ | _ | _ | _ | _ | _ <;> first | rfl | omega)]
  go_wp2
  go_ret
  exact ⟨ret_str (by rw [HL.out]; rfl), (Below.refl _ _).alloc (Nat.le_refl _) _⟩
theorem putL_6 (v : Int) (_h0 : 0 ≤ v) (_h1 : v < 4294967296) : [v % 256, v / 256 % 256, v / 65536 % 256, v / 16777216, 0, 0] = putL v 6 := by
  simp [putL, List.range, List.range.loop]
  try omega
set_option maxRecDepth 100000 in
theorem Put_6 (v : Int) (h0 : 0 ≤ v) (h1 : v < 4294967296) (w : World) :
    Calls Tryz.prog 149 #[.int .i64 v, .int .i64 6] w fun e w' => e = .returned (.string (putB v 6)) ∧ Below w.heap.size w w' := by
  have HL := Lib.hid (putL_6 v h0 h1)
  have hcv : ∀ (t : TypeId) (cs : Array Value), (∀ i, i < 6 → cs[i]? = some (.int .u8 (([v % 256, v / 256 % 256, v / 65536 % 256, v / 16777216, 0, 0] : List Int).getD i 0))) → (convert 178 9 (.slice (some ⟨w.heap.size, 0, none⟩) 6 8)).run Tryz.prog (w.alloc (.cells cs t)) = .ok (.string (strOfNums [v % 256, v / 256 % 256, v / 65536 % 256, v / 16777216, 0, 0])) (w.alloc (.cells cs t)) :=
    fun t cs hx => conv_cells w t cs _ 6 8 rfl hx
  have HC := Lib.hid hcv
  clear hcv
  go_enter Tryz.func149, Tryz.ntmps149
  go_wp2_with fail
  rw [HC.out _ _ (by intro i hi; rcases i with _ | _ | _ | _ | _ | _ | _ | _ | _ <;> first | rfl | omega)]
  go_wp2
  go_ret
  exact ⟨ret_str (by rw [HL.out]; rfl), (Below.refl _ _).alloc (Nat.le_refl _) _⟩
theorem putL_7 (v : Int) (_h0 : 0 ≤ v) (_h1 : v < 4294967296) : [v % 256, v / 256 % 256, v / 65536 % 256, v / 16777216, 0, 0, 0] = putL v 7 := by
  simp [putL, List.range, List.range.loop]
  try omega
set_option maxRecDepth 100000 in
theorem Put_7 (v : Int) (h0 : 0 ≤ v) (h1 : v < 4294967296) (w : World) :
    Calls Tryz.prog 149 #[.int .i64 v, .int .i64 7] w fun e w' => e = .returned (.string (putB v 7)) ∧ Below w.heap.size w w' := by
  have HL := Lib.hid (putL_7 v h0 h1)
  have hcv : ∀ (t : TypeId) (cs : Array Value), (∀ i, i < 7 → cs[i]? = some (.int .u8 (([v % 256, v / 256 % 256, v / 65536 % 256, v / 16777216, 0, 0, 0] : List Int).getD i 0))) → (convert 178 9 (.slice (some ⟨w.heap.size, 0, none⟩) 7 8)).run Tryz.prog (w.alloc (.cells cs t)) = .ok (.string (strOfNums [v % 256, v / 256 % 256, v / 65536 % 256, v / 16777216, 0, 0, 0])) (w.alloc (.cells cs t)) :=
    fun t cs hx => conv_cells w t cs _ 7 8 rfl hx
  have HC := Lib.hid hcv
  clear hcv
  go_enter Tryz.func149, Tryz.ntmps149
  go_wp2_with fail
  rw [HC.out _ _ (by intro i hi; rcases i with _ | _ | _ | _ | _ | _ | _ | _ | _ <;> first | rfl | omega)]
  go_wp2
  go_ret
  exact ⟨ret_str (by rw [HL.out]; rfl), (Below.refl _ _).alloc (Nat.le_refl _) _⟩
theorem putL_8 (v : Int) (_h0 : 0 ≤ v) (_h1 : v < 4294967296) : [v % 256, v / 256 % 256, v / 65536 % 256, v / 16777216, 0, 0, 0, 0] = putL v 8 := by
  simp [putL, List.range, List.range.loop]
  try omega
set_option maxRecDepth 100000 in
theorem Put_8 (v : Int) (h0 : 0 ≤ v) (h1 : v < 4294967296) (w : World) :
    Calls Tryz.prog 149 #[.int .i64 v, .int .i64 8] w fun e w' => e = .returned (.string (putB v 8)) ∧ Below w.heap.size w w' := by
  have HL := Lib.hid (putL_8 v h0 h1)
  have hcv : ∀ (t : TypeId) (cs : Array Value), (∀ i, i < 8 → cs[i]? = some (.int .u8 (([v % 256, v / 256 % 256, v / 65536 % 256, v / 16777216, 0, 0, 0, 0] : List Int).getD i 0))) → (convert 178 9 (.slice (some ⟨w.heap.size, 0, none⟩) 8 8)).run Tryz.prog (w.alloc (.cells cs t)) = .ok (.string (strOfNums [v % 256, v / 256 % 256, v / 65536 % 256, v / 16777216, 0, 0, 0, 0])) (w.alloc (.cells cs t)) :=
    fun t cs hx => conv_cells w t cs _ 8 8 rfl hx
  have HC := Lib.hid hcv
  clear hcv
  go_enter Tryz.func149, Tryz.ntmps149
  go_wp2_with fail
  rw [HC.out _ _ (by intro i hi; rcases i with _ | _ | _ | _ | _ | _ | _ | _ | _ <;> first | rfl | omega)]
  go_wp2
  go_ret
  exact ⟨ret_str (by rw [HL.out]; rfl), (Below.refl _ _).alloc (Nat.le_refl _) _⟩
theorem Put_is (v n : Int) (w : World) :
    Calls Tryz.prog 149 #[.int .i64 v, .int .i64 n] w fun e w' => e = .returned (.string (putS v n)) ∧ Below w.heap.size w w' := by
  by_cases h : 0 ≤ v ∧ v < 4294967296 ∧ 1 ≤ n ∧ n ≤ 8
  · have hs : putS v n = putB v n.toNat := if_pos h
    rw [hs]
    obtain ⟨h0, h1, h2, h3⟩ := h
    have : n = 1 ∨ n = 2 ∨ n = 3 ∨ n = 4 ∨ n = 5 ∨ n = 6 ∨ n = 7 ∨ n = 8 := by omega
    rcases this with rfl | rfl | rfl | rfl | rfl | rfl | rfl | rfl
    · exact Put_1 v h0 h1 w
    · exact Put_2 v h0 h1 w
    · exact Put_3 v h0 h1 w
    · exact Put_4 v h0 h1 w
    · exact Put_5 v h0 h1 w
    · exact Put_6 v h0 h1 w
    · exact Put_7 v h0 h1 w
    · exact Put_8 v h0 h1 w
  · have hs : putS v n = ByteArray.empty := if_neg h
    rw [hs]
    exact Put_out v n h w
end Go.Proofs.YtbghglkplbnnkaaGreatDoor
-- SealGet
namespace Go.Proofs.YtbghglkplbnnkaaGreatDoor
open Go.RowKit

def numL (l : List UInt8) : Int := l.foldr (fun c a => a * 256 + (c.toNat : Int)) 0
def getI (b : ByteArray) : Int := numL (b.data.toList.take 7)
theorem numL_cons (c : UInt8) (l : List UInt8) : numL (c :: l) = numL l * 256 + (c.toNat : Int) := rfl
def getStep (a : Int) (c : UInt8) : Int := bits .or .i64 (wrap64 (a * 256)) (wrap64 (c.toNat : Int))
theorem getStep_is (a : Int) (c : UInt8) (h0 : 0 ≤ a) (h1 : a < 281474976710656) : getStep a c = a * 256 + (c.toNat : Int) := by
  have hc := u8_lt c
  obtain ⟨A, rfl⟩ := Int.eq_ofNat_of_zero_le h0
  have e1 : wrap64 ((A : Int) * 256) = ((A * 256 : Nat) : Int) := by unfold wrap64; omega
  have e2 : wrap64 (c.toNat : Int) = ((c.toNat : Nat) : Int) := by unfold wrap64; omega
  unfold getStep
  rw [e1, e2]
  show IntKind.i64.wrap ((BitVec.ofInt 64 ((A * 256 : Nat) : Int) ||| BitVec.ofInt 64 ((c.toNat : Nat) : Int)).toNat : Int) = _
  rw [BitVec.toNat_or, ofInt_u64 _ (by omega), ofInt_u64 _ (by omega), nat_join 8 (A * 256) c.toNat (by omega) (by omega), IntKind.wrap_i64]
  omega
theorem ret_i64 {a b : Int} (h : a = b) : Ending.returned (.int .i64 a) = .returned (.int .i64 b) := by rw [h]
theorem w64_u8 (c : UInt8) : wrap64 (c.toNat : Int) = (c.toNat : Int) := by have := u8_lt c; unfold wrap64; omega

theorem ba_list (b : ByteArray) (n : Nat) (hn : n ≤ b.size) (l : List UInt8) (hl : l.length = n) (h : ∀ i (hi : i < n), l[i]? = some (b[i]'(by omega))) : b.data.toList.take n = l := by
  apply List.ext_getElem?
  intro i
  rw [List.getElem?_take]
  split
  · rename_i hi
    rw [h i hi]
    have : i < b.data.toList.length := by simpa using (by omega : i < b.size)
    rw [List.getElem?_eq_getElem this]
    rfl
  · rename_i hi
    rw [List.getElem?_eq_none (by omega)]

def getZero (c : UInt8) : Int := bits .or .i64 0 (wrap64 (c.toNat : Int))
theorem getZero_is (c : UInt8) : getZero c = (c.toNat : Int) := by
  have := getStep_is 0 c (by omega) (by omega)
  unfold getZero
  unfold getStep at this
  rw [show wrap64 ((0 : Int) * 256) = 0 by unfold wrap64; omega] at this
  omega
theorem getRun_is : ∀ (l : List UInt8) (z : Int), 0 ≤ z → z < 256 → l.length ≤ 6 →
    l.foldr (fun c a => getStep a c) z = l.foldr (fun c a => a * 256 + (c.toNat : Int)) z ∧ 0 ≤ l.foldr (fun c a => getStep a c) z ∧ l.foldr (fun c a => getStep a c) z < 256 ^ (l.length + 1)
  | [], z, h0, h1, _ => ⟨rfl, h0, by simpa using h1⟩
  | c :: l, z, h0, h1, hl => by
    obtain ⟨e, g0, g1⟩ := getRun_is l z h0 h1 (by simp at hl; omega)
    have hc := u8_lt c
    have hp : (256 : Int) ^ (l.length + 1) ≤ 256 ^ 6 := by
      have : l.length = 0 ∨ l.length = 1 ∨ l.length = 2 ∨ l.length = 3 ∨ l.length = 4 ∨ l.length = 5 := by simp at hl; omega
      rcases this with h | h | h | h | h | h <;> rw [h] <;> decide
    have g2 : l.foldr (fun c a => getStep a c) z < 281474976710656 := by
      have : (256 : Int) ^ 6 = 281474976710656 := by decide
      omega
    have e2 := getStep_is _ c g0 g2
    simp only [List.foldr_cons, List.length_cons]
    rw [e2, ← e]
    refine ⟨rfl, by omega, ?_⟩
    rw [Int.pow_succ]
    generalize (256 : Int) ^ (l.length + 1) = z at *
    omega
theorem getS_2 (x0 x1 : UInt8) : (getStep (x1.toNat : Int) x0) = numL [x0, x1] := by
  have := (getRun_is [x0] (x1.toNat : Int) (by omega) (by have := u8_lt x1; omega) (by simp)).1
  rw [List.foldr_cons, List.foldr_nil, List.foldr_cons, List.foldr_nil] at this
  rw [numL_cons, numL_cons]
  show _ = (((0 : Int) * 256 + (x1.toNat : Int)) * 256 + (x0.toNat : Int))
  rw [Int.zero_mul, Int.zero_add]
  exact this
theorem getS_3 (x0 x1 x2 : UInt8) : (getStep (getStep (x2.toNat : Int) x1) x0) = numL [x0, x1, x2] := by
  have := (getRun_is [x0, x1] (x2.toNat : Int) (by omega) (by have := u8_lt x2; omega) (by simp)).1
  rw [List.foldr_cons, List.foldr_cons, List.foldr_nil, List.foldr_cons, List.foldr_cons, List.foldr_nil] at this
  rw [numL_cons, numL_cons, numL_cons]
  show _ = ((((0 : Int) * 256 + (x2.toNat : Int)) * 256 + (x1.toNat : Int)) * 256 + (x0.toNat : Int))
  rw [Int.zero_mul, Int.zero_add]
  exact this
theorem getS_4 (x0 x1 x2 x3 : UInt8) : (getStep (getStep (getStep (x3.toNat : Int) x2) x1) x0) = numL [x0, x1, x2, x3] := by
  have := (getRun_is [x0, x1, x2] (x3.toNat : Int) (by omega) (by have := u8_lt x3; omega) (by simp)).1
  rw [List.foldr_cons, List.foldr_cons, List.foldr_cons, List.foldr_nil, List.foldr_cons, List.foldr_cons, List.foldr_cons, List.foldr_nil] at this
  rw [numL_cons, numL_cons, numL_cons, numL_cons]
  show _ = (((((0 : Int) * 256 + (x3.toNat : Int)) * 256 + (x2.toNat : Int)) * 256 + (x1.toNat : Int)) * 256 + (x0.toNat : Int))
  rw [Int.zero_mul, Int.zero_add]
  exact this
theorem getS_5 (x0 x1 x2 x3 x4 : UInt8) : (getStep (getStep (getStep (getStep (x4.toNat : Int) x3) x2) x1) x0) = numL [x0, x1, x2, x3, x4] := by
  have := (getRun_is [x0, x1, x2, x3] (x4.toNat : Int) (by omega) (by have := u8_lt x4; omega) (by simp)).1
  rw [List.foldr_cons, List.foldr_cons, List.foldr_cons, List.foldr_cons, List.foldr_nil, List.foldr_cons, List.foldr_cons, List.foldr_cons, List.foldr_cons, List.foldr_nil] at this
  rw [numL_cons, numL_cons, numL_cons, numL_cons, numL_cons]
  show _ = ((((((0 : Int) * 256 + (x4.toNat : Int)) * 256 + (x3.toNat : Int)) * 256 + (x2.toNat : Int)) * 256 + (x1.toNat : Int)) * 256 + (x0.toNat : Int))
  rw [Int.zero_mul, Int.zero_add]
  exact this
theorem getS_6 (x0 x1 x2 x3 x4 x5 : UInt8) : (getStep (getStep (getStep (getStep (getStep (x5.toNat : Int) x4) x3) x2) x1) x0) = numL [x0, x1, x2, x3, x4, x5] := by
  have := (getRun_is [x0, x1, x2, x3, x4] (x5.toNat : Int) (by omega) (by have := u8_lt x5; omega) (by simp)).1
  rw [List.foldr_cons, List.foldr_cons, List.foldr_cons, List.foldr_cons, List.foldr_cons, List.foldr_nil, List.foldr_cons, List.foldr_cons, List.foldr_cons, List.foldr_cons, List.foldr_cons, List.foldr_nil] at this
  rw [numL_cons, numL_cons, numL_cons, numL_cons, numL_cons, numL_cons]
  show _ = (((((((0 : Int) * 256 + (x5.toNat : Int)) * 256 + (x4.toNat : Int)) * 256 + (x3.toNat : Int)) * 256 + (x2.toNat : Int)) * 256 + (x1.toNat : Int)) * 256 + (x0.toNat : Int))
  rw [Int.zero_mul, Int.zero_add]
  exact this
theorem getS_7 (x0 x1 x2 x3 x4 x5 x6 : UInt8) : (getStep (getStep (getStep (getStep (getStep (getStep (x6.toNat : Int) x5) x4) x3) x2) x1) x0) = numL [x0, x1, x2, x3, x4, x5, x6] := by
  have := (getRun_is [x0, x1, x2, x3, x4, x5] (x6.toNat : Int) (by omega) (by have := u8_lt x6; omega) (by simp)).1
  rw [List.foldr_cons, List.foldr_cons, List.foldr_cons, List.foldr_cons, List.foldr_cons, List.foldr_cons, List.foldr_nil, List.foldr_cons, List.foldr_cons, List.foldr_cons, List.foldr_cons, List.foldr_cons, List.foldr_cons, List.foldr_nil] at this
  rw [numL_cons, numL_cons, numL_cons, numL_cons, numL_cons, numL_cons, numL_cons]
  show _ = ((((((((0 : Int) * 256 + (x6.toNat : Int)) * 256 + (x5.toNat : Int)) * 256 + (x4.toNat : Int)) * 256 + (x3.toNat : Int)) * 256 + (x2.toNat : Int)) * 256 + (x1.toNat : Int)) * 256 + (x0.toNat : Int))
  rw [Int.zero_mul, Int.zero_add]
  exact this
theorem getI_1 (b : ByteArray) (h : b.size = 1) : (getZero b[0]) = getI b := by
  have e : b.data.toList.take 7 = [b[0]] := by
    rw [show b.data.toList.take 7 = b.data.toList.take 1 by rw [List.take_of_length_le (by simp; omega), List.take_of_length_le (by simp; omega)]]
    exact ba_list b 1 (by omega) _ rfl (by intro i hi; rcases i with _ | _ <;> first | rfl | omega)
  rw [getI, e, getZero_is]
  simp only [numL, List.foldr_cons, List.foldr_nil, Int.zero_mul, Int.zero_add]
set_option maxRecDepth 100000 in
theorem Get_1 (b : ByteArray) (h : b.size = 1) (w : World) :
    Calls Tryz.prog 167 #[.string b] w fun e w' => e = .returned (.int .i64 (getI b)) ∧ w' = w := by
  have HG := Lib.hid (getI_1 b h)
  go_enter Tryz.func167, Tryz.ntmps167
  go_wp2
  go_ret
  exact ⟨ret_i64 HG.out, rfl⟩
theorem getI_2 (b : ByteArray) (h : b.size = 2) : (getStep (getZero b[1]) b[0]) = getI b := by
  have e : b.data.toList.take 7 = [b[0], b[1]] := by
    rw [show b.data.toList.take 7 = b.data.toList.take 2 by rw [List.take_of_length_le (by simp; omega), List.take_of_length_le (by simp; omega)]]
    exact ba_list b 2 (by omega) _ rfl (by intro i hi; rcases i with _ | _ | _ <;> first | rfl | omega)
  rw [getI, e, getZero_is]
  exact getS_2 b[0] b[1]
set_option maxRecDepth 100000 in
theorem Get_2 (b : ByteArray) (h : b.size = 2) (w : World) :
    Calls Tryz.prog 167 #[.string b] w fun e w' => e = .returned (.int .i64 (getI b)) ∧ w' = w := by
  have HG := Lib.hid (getI_2 b h)
  go_enter Tryz.func167, Tryz.ntmps167
  go_wp2
  go_ret
  exact ⟨ret_i64 HG.out, rfl⟩
theorem getI_3 (b : ByteArray) (h : b.size = 3) : (getStep (getStep (getZero b[2]) b[1]) b[0]) = getI b := by
  have e : b.data.toList.take 7 = [b[0], b[1], b[2]] := by
    rw [show b.data.toList.take 7 = b.data.toList.take 3 by rw [List.take_of_length_le (by simp; omega), List.take_of_length_le (by simp; omega)]]
    exact ba_list b 3 (by omega) _ rfl (by intro i hi; rcases i with _ | _ | _ | _ <;> first | rfl | omega)
  rw [getI, e, getZero_is]
  exact getS_3 b[0] b[1] b[2]
set_option maxRecDepth 100000 in
theorem Get_3 (b : ByteArray) (h : b.size = 3) (w : World) :
    Calls Tryz.prog 167 #[.string b] w fun e w' => e = .returned (.int .i64 (getI b)) ∧ w' = w := by
  have HG := Lib.hid (getI_3 b h)
  go_enter Tryz.func167, Tryz.ntmps167
  go_wp2
  go_ret
  exact ⟨ret_i64 HG.out, rfl⟩
theorem getI_4 (b : ByteArray) (h : b.size = 4) : (getStep (getStep (getStep (getZero b[3]) b[2]) b[1]) b[0]) = getI b := by
  have e : b.data.toList.take 7 = [b[0], b[1], b[2], b[3]] := by
    rw [show b.data.toList.take 7 = b.data.toList.take 4 by rw [List.take_of_length_le (by simp; omega), List.take_of_length_le (by simp; omega)]]
    exact ba_list b 4 (by omega) _ rfl (by intro i hi; rcases i with _ | _ | _ | _ | _ <;> first | rfl | omega)
  rw [getI, e, getZero_is]
  exact getS_4 b[0] b[1] b[2] b[3]
set_option maxRecDepth 100000 in
theorem Get_4 (b : ByteArray) (h : b.size = 4) (w : World) :
    Calls Tryz.prog 167 #[.string b] w fun e w' => e = .returned (.int .i64 (getI b)) ∧ w' = w := by
  have HG := Lib.hid (getI_4 b h)
  go_enter Tryz.func167, Tryz.ntmps167
  go_wp2
  go_ret
  exact ⟨ret_i64 HG.out, rfl⟩
theorem getI_5 (b : ByteArray) (h : b.size = 5) : (getStep (getStep (getStep (getStep (getZero b[4]) b[3]) b[2]) b[1]) b[0]) = getI b := by
  have e : b.data.toList.take 7 = [b[0], b[1], b[2], b[3], b[4]] := by
    rw [show b.data.toList.take 7 = b.data.toList.take 5 by rw [List.take_of_length_le (by simp; omega), List.take_of_length_le (by simp; omega)]]
    exact ba_list b 5 (by omega) _ rfl (by intro i hi; rcases i with _ | _ | _ | _ | _ | _ <;> first | rfl | omega)
  rw [getI, e, getZero_is]
  exact getS_5 b[0] b[1] b[2] b[3] b[4]
set_option maxRecDepth 100000 in
theorem Get_5 (b : ByteArray) (h : b.size = 5) (w : World) :
    Calls Tryz.prog 167 #[.string b] w fun e w' => e = .returned (.int .i64 (getI b)) ∧ w' = w := by
  have HG := Lib.hid (getI_5 b h)
  go_enter Tryz.func167, Tryz.ntmps167
  go_wp2
  go_ret
  exact ⟨ret_i64 HG.out, rfl⟩
theorem getI_6 (b : ByteArray) (h : b.size = 6) : (getStep (getStep (getStep (getStep (getStep (getZero b[5]) b[4]) b[3]) b[2]) b[1]) b[0]) = getI b := by
  have e : b.data.toList.take 7 = [b[0], b[1], b[2], b[3], b[4], b[5]] := by
    rw [show b.data.toList.take 7 = b.data.toList.take 6 by rw [List.take_of_length_le (by simp; omega), List.take_of_length_le (by simp; omega)]]
    exact ba_list b 6 (by omega) _ rfl (by intro i hi; rcases i with _ | _ | _ | _ | _ | _ | _ <;> first | rfl | omega)
  rw [getI, e, getZero_is]
  exact getS_6 b[0] b[1] b[2] b[3] b[4] b[5]
set_option maxRecDepth 100000 in
theorem Get_6 (b : ByteArray) (h : b.size = 6) (w : World) :
    Calls Tryz.prog 167 #[.string b] w fun e w' => e = .returned (.int .i64 (getI b)) ∧ w' = w := by
  have HG := Lib.hid (getI_6 b h)
  go_enter Tryz.func167, Tryz.ntmps167
  go_wp2
  go_ret
  exact ⟨ret_i64 HG.out, rfl⟩
theorem getI_7 (b : ByteArray) (h : 7 ≤ b.size) : (getStep (getStep (getStep (getStep (getStep (getStep (wrap64 (b[6].toNat : Int)) b[5]) b[4]) b[3]) b[2]) b[1]) b[0]) = getI b := by
  have e : b.data.toList.take 7 = [b[0], b[1], b[2], b[3], b[4], b[5], b[6]] := by
    exact ba_list b 7 (by omega) _ rfl (by intro i hi; rcases i with _ | _ | _ | _ | _ | _ | _ | _ <;> first | rfl | omega)
  rw [getI, e, w64_u8]
  exact getS_7 b[0] b[1] b[2] b[3] b[4] b[5] b[6]
set_option maxRecDepth 100000 in
theorem Get_7 (b : ByteArray) (h : 7 ≤ b.size) (hs : b.size ≤ maxLen) (w : World) :
    Calls Tryz.prog 167 #[.string b] w fun e w' => e = .returned (.int .i64 (getI b)) ∧ w' = w := by
  have HG := Lib.hid (getI_7 b h)
  unfold maxLen at hs
  go_enter Tryz.func167, Tryz.ntmps167
  go_wp2
  go_ret
  exact ⟨ret_i64 HG.out, rfl⟩
set_option maxRecDepth 100000 in
theorem Get_0 (b : ByteArray) (h : b.size = 0) (w : World) :
    Calls Tryz.prog 167 #[.string b] w fun e w' => e = .returned (.int .i64 (getI b)) ∧ w' = w := by
  have HG := Lib.hid (show (0 : Int) = getI b by
    have e : b.data.toList = [] := List.eq_nil_of_length_eq_zero (by simpa using h)
    rw [getI, e]; rfl)
  go_enter Tryz.func167, Tryz.ntmps167
  go_wp2
  go_ret
  exact ⟨ret_i64 HG.out, rfl⟩
theorem Get_is (b : ByteArray) (hs : b.size ≤ maxLen) (w : World) :
    Calls Tryz.prog 167 #[.string b] w fun e w' => e = .returned (.int .i64 (getI b)) ∧ w' = w := by
  have : b.size = 0 ∨ b.size = 1 ∨ b.size = 2 ∨ b.size = 3 ∨ b.size = 4 ∨ b.size = 5 ∨ b.size = 6 ∨ 7 ≤ b.size := by omega
  rcases this with h | h | h | h | h | h | h | h
  · exact Get_0 b h w
  · exact Get_1 b h w
  · exact Get_2 b h w
  · exact Get_3 b h w
  · exact Get_4 b h w
  · exact Get_5 b h w
  · exact Get_6 b h w
  · exact Get_7 b h hs w

end Go.Proofs.YtbghglkplbnnkaaGreatDoor
-- SealRPut
namespace Go.Proofs.YtbghglkplbnnkaaGreatDoor
open Go.RowKit

theorem sl_info {P : Program} {t : TypeId} {z : Value} {s b : Nat} (h : (P.info? t).map (fun i => (i.zero, i.size, i.bytes)) = some (some z, s, b)) : ∃ i, P.info? t = some i ∧ i.zero = some z ∧ i.size = s ∧ i.bytes = b := by
  cases hi : P.info? t with
  | none => rw [hi] at h; simp at h
  | some i => rw [hi] at h; simp at h; exact ⟨i, rfl, h.1, h.2.1, h.2.2⟩
theorem sl_u8Info : (Tryz.prog.info? 5).map (fun i => (i.zero, i.size, i.bytes)) = some (some (.int .u8 0), 1, 1) := by kernel_rfl
end Go.Proofs.YtbghglkplbnnkaaGreatDoor
-- SealSeal
namespace Go.Proofs.YtbghglkplbnnkaaGreatDoor
open Go.RowKit

def zeros (k : Nat) : ByteArray := ⟨Array.replicate k 0⟩
theorem zeros_size (k : Nat) : (zeros k).size = k := by simp [zeros, ByteArray.size]
def sealBody (b : ByteArray) (n : Nat) : ByteArray := b ++ zeros (n - 4 - b.size)
def sealB (b : ByteArray) (n : Nat) : ByteArray := sealBody b n ++ putS (sumI (sealBody b n).data.toList) 4
def sealS (b : ByteArray) (n : Int) : ByteArray := if 4 ≤ n ∧ n ≤ 200 ∧ (b.size : Int) ≤ n - 4 then sealB b n.toNat else ByteArray.empty
theorem sealBody_size (b : ByteArray) (n : Nat) (h : b.size ≤ n - 4) : (sealBody b n).size = n - 4 := by
  rw [sealBody, ByteArray.size_append, zeros_size]; omega

theorem rep_zeros (c : Nat) (h1 : c ≤ 1000) (w : World) :
    Calls Tryz.prog 163 #[.string ⟨#[0]⟩, .int .i64 (c : Int)] w fun e w' => e = .returned (.string (zeros c)) ∧ Below w.heap.size w w' := by
  refine (Tryz.strings_Repeat ⟨#[0]⟩ c w (by omega) (by show 1 * c ≤ _; omega)).mono ?_
  rintro e w' ⟨rfl, hb⟩
  refine ⟨?_, hb⟩
  have : ∀ c : Nat, Lib.repeatL [(0 : UInt8)] c = List.replicate c 0 := fun c => by
    induction c with
    | zero => rfl
    | succ c ih => simp [Lib.repeatL, List.replicate_succ] at ih ⊢; try exact ih
  refine ret_str ?_
  show ByteArray.mk (Lib.repeatL [(0 : UInt8)] c).toArray = _
  rw [this]
  simp [zeros]

theorem sealBody_def (b : ByteArray) (n c : Nat) (h : c = n - 4 - b.size) : b ++ zeros c = sealBody b n := by rw [sealBody, h]
set_option maxRecDepth 100000 in
theorem Seal_in (b : ByteArray) (n : Nat) (h0 : 4 ≤ n) (h1 : n ≤ 200) (h2 : b.size ≤ n - 4) (w : World) :
    Calls Tryz.prog 147 #[.string b, .int .i64 (n : Int)] w fun e w' => e = .returned (.string (sealB b n)) ∧ Below w.heap.size w w' := by
  have h3 : (b.size : Int) ≤ (n : Int) - 4 := by omega
  have hc : ∃ c : Nat, c = n - 4 - b.size := ⟨n - 4 - b.size, rfl⟩
  obtain ⟨c, hc2⟩ := hc
  have hc : (n : Int) - 4 - (b.size : Int) = (c : Int) := by omega
  have hcs : c ≤ 200 := by omega
  have HC := Lib.hid hc2
  have HB := Lib.hid (show b ++ zeros c = sealBody b n from sealBody_def b n c hc2)
  have hbs := sealBody_size b n h2
  have HS := Lib.hid hbs
  have hzb : b.size + (zeros c).size ≤ 9223372036854775807 := by rw [zeros_size]; omega
  clear hc2 hbs
  go_enter Tryz.func147, Tryz.ntmps147
  go_wp2_with (go_at_call 163; refine (rep_zeros c (by omega) _).mono ?_; rintro e w1 ⟨rfl, b1⟩)
  rw [HB.out]
  have hr := sumI_range (sealBody b n).data.toList
  obtain ⟨hr0, hr1⟩ := hr
  have HM := Lib.hid (show (sealBody b n).size ≤ maxLen by rw [HS.out]; unfold maxLen; omega)
  have htb : (sealBody b n).size + (putS (sumI (sealBody b n).data.toList) 4).size ≤ 9223372036854775807 := by
    rw [HS.out, show putS (sumI (sealBody b n).data.toList) 4 = putB (sumI (sealBody b n).data.toList) 4 from if_pos ⟨hr0, hr1, by omega, by omega⟩, putB_size]; omega
  have HE := Lib.hid (show sealB b n = sealBody b n ++ putS (sumI (sealBody b n).data.toList) 4 from rfl)
  generalize sealBody b n = t at *
  refine (Sum_is t _ HM.out).mono ?_
  rintro e w2 ⟨rfl, rfl⟩
  generalize sumI t.data.toList = x at *
  go_wp2_with (go_at_call 149; refine (Put_is x 4 _).mono ?_; rintro e w3 ⟨rfl, b3⟩)
  go_ret
  exact ⟨ret_str HE.out.symm, b1.trans (b3.mono b1.size)⟩

set_option maxRecDepth 100000 in
theorem Seal_out (b : ByteArray) (n : Int) (hb : b.size ≤ maxLen) (h : ¬ (4 ≤ n ∧ n ≤ 200 ∧ (b.size : Int) ≤ n - 4)) (w : World) :
    Calls Tryz.prog 147 #[.string b, .int .i64 n] w fun e w' => e = .returned (.string ByteArray.empty) ∧ Below w.heap.size w w' := by
  unfold maxLen at hb
  have : n < 4 ∨ 200 < n ∨ (4 ≤ n ∧ n ≤ 200 ∧ n - 4 < (b.size : Int)) := by omega
  clear h
  rcases this with h | h | ⟨h1, h2, h3⟩
  all_goals
    go_enter Tryz.func147, Tryz.ntmps147
    go_wp2
    all_goals
      go_ret
      exact ⟨rfl, Below.refl _ _⟩
theorem Seal_is (b : ByteArray) (n : Int) (hb : b.size ≤ maxLen) (w : World) :
    Calls Tryz.prog 147 #[.string b, .int .i64 n] w fun e w' => e = .returned (.string (sealS b n)) ∧ Below w.heap.size w w' := by
  by_cases h : 4 ≤ n ∧ n ≤ 200 ∧ (b.size : Int) ≤ n - 4
  · rw [show sealS b n = sealB b n.toNat from if_pos h]
    obtain ⟨h0, h1, h2⟩ := h
    obtain ⟨m, rfl⟩ := Int.eq_ofNat_of_zero_le (show 0 ≤ n by omega)
    exact Seal_in b m (by omega) (by omega) (by omega) w
  · rw [show sealS b n = ByteArray.empty from if_neg h]
    exact Seal_out b n hb h w

end Go.Proofs.YtbghglkplbnnkaaGreatDoor
-- SealROpen
namespace Go.Proofs.YtbghglkplbnnkaaGreatDoor
open Go.RowKit

theorem bel_draws (B : Nat) (w : World) (n : Nat) : Below B w (w.drewN n) := ⟨rfl, rfl, rfl, Nat.le_refl _, fun _ _ => rfl⟩
end Go.Proofs.YtbghglkplbnnkaaGreatDoor
-- SealMath
namespace Go.Proofs.YtbghglkplbnnkaaGreatDoor
open Go.RowKit

theorem ba_ext {a b : ByteArray} (h : a.data.toList = b.data.toList) : a = b := by
  cases a; cases b; simp at h; simp [h]
theorem ba_append (a b : ByteArray) : (a ++ b).data.toList = a.data.toList ++ b.data.toList := by simp
theorem ba_len (a : ByteArray) : a.data.toList.length = a.size := by simp
theorem ofNat_mod (x : Int) : ((UInt8.ofNat (x % 256).toNat).toNat : Int) = x % 256 := by
  rw [UInt8.toNat_ofNat']
  omega
theorem strOf_list (xs : List Int) : (strOfNums xs).data.toList = xs.map fun n => UInt8.ofNat n.toNat := rfl
theorem getI_short (b : ByteArray) (h : b.size ≤ 7) : getI b = numL b.data.toList := by
  rw [getI, List.take_of_length_le (by rw [ba_len]; exact h)]
theorem mod_stepN (V Z : Nat) : V / 256 % Z * 256 + V % 256 = V % (256 * Z) := by
  rw [Nat.mod_mul]
  generalize V / 256 % Z = q
  omega
theorem mod_step (v : Int) (n : Nat) (hv : 0 ≤ v) : v / 256 % 256 ^ n * 256 + v % 256 = v % (256 * 256 ^ n) := by
  obtain ⟨V, rfl⟩ := Int.eq_ofNat_of_zero_le hv
  have hp : (256 : Int) ^ n = ((256 ^ n : Nat) : Int) := by rw [Int.natCast_pow]; rfl
  rw [hp]
  generalize (256 : Nat) ^ n = Z
  exact congrArg Int.ofNat (mod_stepN V Z)
theorem numL_put (v : Int) (h0 : 0 ≤ v) : ∀ (n : Nat), numL ((putL v n).map fun n => UInt8.ofNat n.toNat) = v % 256 ^ n := by
  have key : ∀ (n : Nat) (v : Int), 0 ≤ v → numL (((List.range n).map fun k => v / 256 ^ k % 256).map fun n => UInt8.ofNat n.toNat) = v % 256 ^ n := by
    intro n
    induction n with
    | zero => intro v _; simp [numL, Int.emod_one]
    | succ n ih =>
      intro v hv
      rw [List.range_succ_eq_map, List.map_cons, List.map_cons, numL_cons, ofNat_mod]
      have e : ((fun k => v / 256 ^ k % 256) ∘ Nat.succ) = fun k : Nat => (v / 256) / 256 ^ k % 256 := by
        funext k
        show v / 256 ^ (k + 1) % 256 = _
        rw [Int.pow_succ, Int.mul_comm, Int.ediv_ediv_of_nonneg (by decide)]
      have e' : List.map (fun k => v / 256 ^ k % 256) (List.map Nat.succ (List.range n)) = (List.range n).map fun k : Nat => (v / 256) / 256 ^ k % 256 := by rw [List.map_map, e]
      rw [e', ih (v / 256) (Int.ediv_nonneg hv (by decide)), Int.pow_zero, Int.ediv_one, Int.pow_succ, Int.mul_comm ((256 : Int) ^ n) 256]
      exact mod_step v n hv
  exact fun n => key n v h0
theorem getI_put (v : Int) (n : Nat) (h0 : 0 ≤ v) (h1 : v < 4294967296) (h4 : 4 ≤ n) (h7 : n ≤ 7) : getI (putB v n) = v := by
  rw [getI_short _ (by rw [putB_size]; exact h7), putB, strOf_list, numL_put v h0 n]
  have : n = 4 ∨ n = 5 ∨ n = 6 ∨ n = 7 := by omega
  refine Int.emod_eq_of_lt h0 (Int.lt_of_lt_of_le h1 ?_)
  rcases this with rfl | rfl | rfl | rfl <;> decide
theorem putS_4 (v : Int) (h0 : 0 ≤ v) (h1 : v < 4294967296) : putS v 4 = putB v 4 := if_pos ⟨h0, h1, by omega, by omega⟩
theorem sealB_size (b : ByteArray) (n : Nat) (h4 : 4 ≤ n) (h : b.size ≤ n - 4) : (sealB b n).size = n := by
  have hr := sumI_range (sealBody b n).data.toList
  rw [sealB, ByteArray.size_append, putS_4 _ hr.1 hr.2, putB_size, sealBody_size b n h]
  omega

end Go.Proofs.YtbghglkplbnnkaaGreatDoor
