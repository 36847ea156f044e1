/- Put, the project's and the document's own: a number's bytes. -/
import Derived.Test.YtbcdmcafobjpcaaGreatDoorSealSum
import Derived.Laws.BytesArg
namespace Go.Proofs.YtbcdmcafobjpcaaGreatDoor
open Go.RowKit

/-- A number's bytes, the lowest first. -/
def putL (v : Int) (n : Nat) : List Int := (List.range n).map fun k => v / 256 ^ k % 256
def putB (v : Int) (n : Nat) : ByteArray := strOfNums (putL v n)
theorem putL_len (v : Int) (n : Nat) : (putL v n).length = n := by simp [putL]
theorem putB_size (v : Int) (n : Nat) : (putB v n).size = n := by rw [putB, strOfNums_size, putL_len]
/-- What Put tells. -/
def putS (v n : Int) : ByteArray := if 0 ≤ v ∧ v < 4294967296 ∧ 1 ≤ n ∧ n ≤ 8 then putB v n.toNat else ByteArray.empty

theorem conv_cells (w : World) (t : TypeId) (cs : Array Value) (xs : List Int) (n c : Nat) (hn : xs.length = n) (hx : ∀ i, i < n → cs[i]? = some (.int .u8 (xs.getD i 0))) :
    (convert 157 9 (.slice (some ⟨w.heap.size, 0, none⟩) n c)).run Tryz.prog (w.alloc (.cells cs t)) = .ok (.string (strOfNums xs)) (w.alloc (.cells cs t)) := by
  refine run_convert_bytes_arg _ 157 5 (by kernel_rfl) (by kernel_rfl) w.heap.size 0 n c xs hn (fun i hi => ?_) 9 (by kernel_rfl)
  rw [Nat.zero_add, World.cell?_alloc_new]
  exact hx i hi
theorem ret_str {a b : ByteArray} (h : a = b) : Ending.returned (.string a) = .returned (.string b) := by rw [h]

set_option maxRecDepth 100000 in
theorem Put_out (v n : Int) (h : ¬ (0 ≤ v ∧ v < 4294967296 ∧ 1 ≤ n ∧ n ≤ 8)) (w : World) :
    Calls Tryz.prog 92 #[.int .i64 v, .int .i64 n] w fun e w' => e = .returned (.string ByteArray.empty) ∧ Below w.heap.size w w' := by
  by_cases h0 : v < 0 ∨ 4294967296 ≤ v
  · clear h
    rcases h0 with h0 | h0
    all_goals
      go_enter Tryz.func92, Tryz.ntmps92
      go_wp2
      all_goals
        go_ret
        exact ⟨rfl, Below.refl _ _⟩
  · have hn : n < 1 ∨ 8 < n := by omega
    have h1 : 0 ≤ v := by omega
    have h2 : v < 4294967296 := by omega
    clear h h0
    rcases hn with hn | hn
    all_goals
      go_enter Tryz.func92, Tryz.ntmps92
      go_wp2
      all_goals
        go_ret
        exact ⟨rfl, (Below.refl _ _).alloc (Nat.le_refl _) _⟩

theorem putL_1 (v : Int) (_h0 : 0 ≤ v) (_h1 : v < 4294967296) : [v % 256] = putL v 1 := by
  simp [putL, List.range, List.range.loop]
  try omega
set_option maxRecDepth 100000 in
theorem Put_1 (v : Int) (h0 : 0 ≤ v) (h1 : v < 4294967296) (w : World) :
    Calls Tryz.prog 92 #[.int .i64 v, .int .i64 1] w fun e w' => e = .returned (.string (putB v 1)) ∧ Below w.heap.size w w' := by
  have HL := Lib.hid (putL_1 v h0 h1)
  have hcv : ∀ (t : TypeId) (cs : Array Value), (∀ i, i < 1 → cs[i]? = some (.int .u8 (([v % 256] : List Int).getD i 0))) → (convert 157 9 (.slice (some ⟨w.heap.size, 0, none⟩) 1 8)).run Tryz.prog (w.alloc (.cells cs t)) = .ok (.string (strOfNums [v % 256])) (w.alloc (.cells cs t)) :=
    fun t cs hx => conv_cells w t cs _ 1 8 rfl hx
  have HC := Lib.hid hcv
  clear hcv
  go_enter Tryz.func92, Tryz.ntmps92
  go_wp2_with fail
  rw [HC.out _ _ (by intro i hi; rcases i with _ | _ | _ | _ | _ | _ | _ | _ | _ <;> first | rfl | omega)]
  go_wp2
  go_ret
  exact ⟨ret_str (by rw [HL.out]; rfl), (Below.refl _ _).alloc (Nat.le_refl _) _⟩
theorem putL_2 (v : Int) (_h0 : 0 ≤ v) (_h1 : v < 4294967296) : [v % 256, v / 256 % 256] = putL v 2 := by
  simp [putL, List.range, List.range.loop]
  try omega
set_option maxRecDepth 100000 in
theorem Put_2 (v : Int) (h0 : 0 ≤ v) (h1 : v < 4294967296) (w : World) :
    Calls Tryz.prog 92 #[.int .i64 v, .int .i64 2] w fun e w' => e = .returned (.string (putB v 2)) ∧ Below w.heap.size w w' := by
  have HL := Lib.hid (putL_2 v h0 h1)
  have hcv : ∀ (t : TypeId) (cs : Array Value), (∀ i, i < 2 → cs[i]? = some (.int .u8 (([v % 256, v / 256 % 256] : List Int).getD i 0))) → (convert 157 9 (.slice (some ⟨w.heap.size, 0, none⟩) 2 8)).run Tryz.prog (w.alloc (.cells cs t)) = .ok (.string (strOfNums [v % 256, v / 256 % 256])) (w.alloc (.cells cs t)) :=
    fun t cs hx => conv_cells w t cs _ 2 8 rfl hx
  have HC := Lib.hid hcv
  clear hcv
  go_enter Tryz.func92, Tryz.ntmps92
  go_wp2_with fail
  rw [HC.out _ _ (by intro i hi; rcases i with _ | _ | _ | _ | _ | _ | _ | _ | _ <;> first | rfl | omega)]
  go_wp2
  go_ret
  exact ⟨ret_str (by rw [HL.out]; rfl), (Below.refl _ _).alloc (Nat.le_refl _) _⟩
theorem putL_3 (v : Int) (_h0 : 0 ≤ v) (_h1 : v < 4294967296) : [v % 256, v / 256 % 256, v / 65536 % 256] = putL v 3 := by
  simp [putL, List.range, List.range.loop]
  try omega
set_option maxRecDepth 100000 in
theorem Put_3 (v : Int) (h0 : 0 ≤ v) (h1 : v < 4294967296) (w : World) :
    Calls Tryz.prog 92 #[.int .i64 v, .int .i64 3] w fun e w' => e = .returned (.string (putB v 3)) ∧ Below w.heap.size w w' := by
  have HL := Lib.hid (putL_3 v h0 h1)
  have hcv : ∀ (t : TypeId) (cs : Array Value), (∀ i, i < 3 → cs[i]? = some (.int .u8 (([v % 256, v / 256 % 256, v / 65536 % 256] : List Int).getD i 0))) → (convert 157 9 (.slice (some ⟨w.heap.size, 0, none⟩) 3 8)).run Tryz.prog (w.alloc (.cells cs t)) = .ok (.string (strOfNums [v % 256, v / 256 % 256, v / 65536 % 256])) (w.alloc (.cells cs t)) :=
    fun t cs hx => conv_cells w t cs _ 3 8 rfl hx
  have HC := Lib.hid hcv
  clear hcv
  go_enter Tryz.func92, Tryz.ntmps92
  go_wp2_with fail
  rw [HC.out _ _ (by intro i hi; rcases i with _ | _ | _ | _ | _ | _ | _ | _ | _ <;> first | rfl | omega)]
  go_wp2
  go_ret
  exact ⟨ret_str (by rw [HL.out]; rfl), (Below.refl _ _).alloc (Nat.le_refl _) _⟩
theorem putL_4 (v : Int) (_h0 : 0 ≤ v) (_h1 : v < 4294967296) : [v % 256, v / 256 % 256, v / 65536 % 256, v / 16777216] = putL v 4 := by
  simp [putL, List.range, List.range.loop]
  try omega
set_option maxRecDepth 100000 in
theorem Put_4 (v : Int) (h0 : 0 ≤ v) (h1 : v < 4294967296) (w : World) :
    Calls Tryz.prog 92 #[.int .i64 v, .int .i64 4] w fun e w' => e = .returned (.string (putB v 4)) ∧ Below w.heap.size w w' := by
  have HL := Lib.hid (putL_4 v h0 h1)
  have hcv : ∀ (t : TypeId) (cs : Array Value), (∀ i, i < 4 → cs[i]? = some (.int .u8 (([v % 256, v / 256 % 256, v / 65536 % 256, v / 16777216] : List Int).getD i 0))) → (convert 157 9 (.slice (some ⟨w.heap.size, 0, none⟩) 4 8)).run Tryz.prog (w.alloc (.cells cs t)) = .ok (.string (strOfNums [v % 256, v / 256 % 256, v / 65536 % 256, v / 16777216])) (w.alloc (.cells cs t)) :=
    fun t cs hx => conv_cells w t cs _ 4 8 rfl hx
  have HC := Lib.hid hcv
  clear hcv
  go_enter Tryz.func92, Tryz.ntmps92
  go_wp2_with fail
  rw [HC.out _ _ (by intro i hi; rcases i with _ | _ | _ | _ | _ | _ | _ | _ | _ <;> first | rfl | omega)]
  go_wp2
  go_ret
  exact ⟨ret_str (by rw [HL.out]; rfl), (Below.refl _ _).alloc (Nat.le_refl _) _⟩
theorem putL_5 (v : Int) (_h0 : 0 ≤ v) (_h1 : v < 4294967296) : [v % 256, v / 256 % 256, v / 65536 % 256, v / 16777216, 0] = putL v 5 := by
  simp [putL, List.range, List.range.loop]
  try omega
set_option maxRecDepth 100000 in
theorem Put_5 (v : Int) (h0 : 0 ≤ v) (h1 : v < 4294967296) (w : World) :
    Calls Tryz.prog 92 #[.int .i64 v, .int .i64 5] w fun e w' => e = .returned (.string (putB v 5)) ∧ Below w.heap.size w w' := by
  have HL := Lib.hid (putL_5 v h0 h1)
  have hcv : ∀ (t : TypeId) (cs : Array Value), (∀ i, i < 5 → cs[i]? = some (.int .u8 (([v % 256, v / 256 % 256, v / 65536 % 256, v / 16777216, 0] : List Int).getD i 0))) → (convert 157 9 (.slice (some ⟨w.heap.size, 0, none⟩) 5 8)).run Tryz.prog (w.alloc (.cells cs t)) = .ok (.string (strOfNums [v % 256, v / 256 % 256, v / 65536 % 256, v / 16777216, 0])) (w.alloc (.cells cs t)) :=
    fun t cs hx => conv_cells w t cs _ 5 8 rfl hx
  have HC := Lib.hid hcv
  clear hcv
  go_enter Tryz.func92, Tryz.ntmps92
  go_wp2_with fail
  rw [HC.out _ _ (by intro i hi; rcases i with _ | _ | _ | _ | _ | _ | _ | _ | _ <;> first | rfl | omega)]
  go_wp2
  go_ret
  exact ⟨ret_str (by rw [HL.out]; rfl), (Below.refl _ _).alloc (Nat.le_refl _) _⟩
theorem putL_6 (v : Int) (_h0 : 0 ≤ v) (_h1 : v < 4294967296) : [v % 256, v / 256 % 256, v / 65536 % 256, v / 16777216, 0, 0] = putL v 6 := by
  simp [putL, List.range, List.range.loop]
  try omega
set_option maxRecDepth 100000 in
theorem Put_6 (v : Int) (h0 : 0 ≤ v) (h1 : v < 4294967296) (w : World) :
    Calls Tryz.prog 92 #[.int .i64 v, .int .i64 6] w fun e w' => e = .returned (.string (putB v 6)) ∧ Below w.heap.size w w' := by
  have HL := Lib.hid (putL_6 v h0 h1)
  have hcv : ∀ (t : TypeId) (cs : Array Value), (∀ i, i < 6 → cs[i]? = some (.int .u8 (([v % 256, v / 256 % 256, v / 65536 % 256, v / 16777216, 0, 0] : List Int).getD i 0))) → (convert 157 9 (.slice (some ⟨w.heap.size, 0, none⟩) 6 8)).run Tryz.prog (w.alloc (.cells cs t)) = .ok (.string (strOfNums [v % 256, v / 256 % 256, v / 65536 % 256, v / 16777216, 0, 0])) (w.alloc (.cells cs t)) :=
    fun t cs hx => conv_cells w t cs _ 6 8 rfl hx
  have HC := Lib.hid hcv
  clear hcv
  go_enter Tryz.func92, Tryz.ntmps92
  go_wp2_with fail
  rw [HC.out _ _ (by intro i hi; rcases i with _ | _ | _ | _ | _ | _ | _ | _ | _ <;> first | rfl | omega)]
  go_wp2
  go_ret
  exact ⟨ret_str (by rw [HL.out]; rfl), (Below.refl _ _).alloc (Nat.le_refl _) _⟩
theorem putL_7 (v : Int) (_h0 : 0 ≤ v) (_h1 : v < 4294967296) : [v % 256, v / 256 % 256, v / 65536 % 256, v / 16777216, 0, 0, 0] = putL v 7 := by
  simp [putL, List.range, List.range.loop]
  try omega
set_option maxRecDepth 100000 in
theorem Put_7 (v : Int) (h0 : 0 ≤ v) (h1 : v < 4294967296) (w : World) :
    Calls Tryz.prog 92 #[.int .i64 v, .int .i64 7] w fun e w' => e = .returned (.string (putB v 7)) ∧ Below w.heap.size w w' := by
  have HL := Lib.hid (putL_7 v h0 h1)
  have hcv : ∀ (t : TypeId) (cs : Array Value), (∀ i, i < 7 → cs[i]? = some (.int .u8 (([v % 256, v / 256 % 256, v / 65536 % 256, v / 16777216, 0, 0, 0] : List Int).getD i 0))) → (convert 157 9 (.slice (some ⟨w.heap.size, 0, none⟩) 7 8)).run Tryz.prog (w.alloc (.cells cs t)) = .ok (.string (strOfNums [v % 256, v / 256 % 256, v / 65536 % 256, v / 16777216, 0, 0, 0])) (w.alloc (.cells cs t)) :=
    fun t cs hx => conv_cells w t cs _ 7 8 rfl hx
  have HC := Lib.hid hcv
  clear hcv
  go_enter Tryz.func92, Tryz.ntmps92
  go_wp2_with fail
  rw [HC.out _ _ (by intro i hi; rcases i with _ | _ | _ | _ | _ | _ | _ | _ | _ <;> first | rfl | omega)]
  go_wp2
  go_ret
  exact ⟨ret_str (by rw [HL.out]; rfl), (Below.refl _ _).alloc (Nat.le_refl _) _⟩
theorem putL_8 (v : Int) (_h0 : 0 ≤ v) (_h1 : v < 4294967296) : [v % 256, v / 256 % 256, v / 65536 % 256, v / 16777216, 0, 0, 0, 0] = putL v 8 := by
  simp [putL, List.range, List.range.loop]
  try omega
set_option maxRecDepth 100000 in
theorem Put_8 (v : Int) (h0 : 0 ≤ v) (h1 : v < 4294967296) (w : World) :
    Calls Tryz.prog 92 #[.int .i64 v, .int .i64 8] w fun e w' => e = .returned (.string (putB v 8)) ∧ Below w.heap.size w w' := by
  have HL := Lib.hid (putL_8 v h0 h1)
  have hcv : ∀ (t : TypeId) (cs : Array Value), (∀ i, i < 8 → cs[i]? = some (.int .u8 (([v % 256, v / 256 % 256, v / 65536 % 256, v / 16777216, 0, 0, 0, 0] : List Int).getD i 0))) → (convert 157 9 (.slice (some ⟨w.heap.size, 0, none⟩) 8 8)).run Tryz.prog (w.alloc (.cells cs t)) = .ok (.string (strOfNums [v % 256, v / 256 % 256, v / 65536 % 256, v / 16777216, 0, 0, 0, 0])) (w.alloc (.cells cs t)) :=
    fun t cs hx => conv_cells w t cs _ 8 8 rfl hx
  have HC := Lib.hid hcv
  clear hcv
  go_enter Tryz.func92, Tryz.ntmps92
  go_wp2_with fail
  rw [HC.out _ _ (by intro i hi; rcases i with _ | _ | _ | _ | _ | _ | _ | _ | _ <;> first | rfl | omega)]
  go_wp2
  go_ret
  exact ⟨ret_str (by rw [HL.out]; rfl), (Below.refl _ _).alloc (Nat.le_refl _) _⟩
theorem Put_is (v n : Int) (w : World) :
    Calls Tryz.prog 92 #[.int .i64 v, .int .i64 n] w fun e w' => e = .returned (.string (putS v n)) ∧ Below w.heap.size w w' := by
  by_cases h : 0 ≤ v ∧ v < 4294967296 ∧ 1 ≤ n ∧ n ≤ 8
  · have hs : putS v n = putB v n.toNat := if_pos h
    rw [hs]
    obtain ⟨h0, h1, h2, h3⟩ := h
    have : n = 1 ∨ n = 2 ∨ n = 3 ∨ n = 4 ∨ n = 5 ∨ n = 6 ∨ n = 7 ∨ n = 8 := by omega
    rcases this with rfl | rfl | rfl | rfl | rfl | rfl | rfl | rfl
    · exact Put_1 v h0 h1 w
    · exact Put_2 v h0 h1 w
    · exact Put_3 v h0 h1 w
    · exact Put_4 v h0 h1 w
    · exact Put_5 v h0 h1 w
    · exact Put_6 v h0 h1 w
    · exact Put_7 v h0 h1 w
    · exact Put_8 v h0 h1 w
  · have hs : putS v n = ByteArray.empty := if_neg h
    rw [hs]
    exact Put_out v n h w
end Go.Proofs.YtbcdmcafobjpcaaGreatDoor
