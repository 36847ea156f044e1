/- The document's own Put. -/
import Derived.Test.YtebeegfgghbdlaaSealGet
namespace Go.Proofs.Ytebeegfgghbdlaa
open Go.RowKit

theorem sl_info {P : Program} {t : TypeId} {z : Value} {s b : Nat} (h : (P.info? t).map (fun i => (i.zero, i.size, i.bytes)) = some (some z, s, b)) : ∃ i, P.info? t = some i ∧ i.zero = some z ∧ i.size = s ∧ i.bytes = b := by
  cases hi : P.info? t with
  | none => rw [hi] at h; simp at h
  | some i => rw [hi] at h; simp at h; exact ⟨i, rfl, h.1, h.2.1, h.2.2⟩
theorem sl_u8Info : (Try.prog.info? 5).map (fun i => (i.zero, i.size, i.bytes)) = some (some (.int .u8 0), 1, 1) := by kernel_rfl
theorem mkBytes (u : World) (n : Nat) (hn : n ≤ 1000) : (Instr.makeSlice 78 (.int .i64 (n : Int)) (.int .i64 (n : Int))).run Try.prog u =
      .ok (.slice (some ⟨u.heap.size, 0, none⟩) n n) (u.alloc (.cells (Array.replicate n (.int .u8 0)) 5)) := by
  obtain ⟨i1, hi, hz0, hz1, hz2⟩ := sl_info sl_u8Info
  have h := run_make (P := Try.prog) u 78 5 i1 _ Try.underlying78 hi hz0 .i64 .i64 n n (by omega) (Int.le_refl _) (by rw [hz2]; omega) (by omega)
  simpa [hz1, Value.cells, show madeCells #[Value.int .u8 0] n = Array.replicate n (.int .u8 0) from by apply Array.ext <;> simp [madeCells, Nat.mod_one]] using h

theorem Number_is (v : Int) (w : World) : Calls Try.prog 26 #[.int .i64 v] w fun e w' => e = .returned (.bool (decide (0 ≤ v ∧ v < 4294967296))) ∧ w' = w := by
  by_cases h : 0 ≤ v
  · by_cases h1 : v < 4294967296
    · rw [decide_eq_true (show 0 ≤ v ∧ v < 4294967296 from ⟨h, h1⟩)]
      go_enter Try.func26, Try.ntmps26
      go_wp2
      all_goals
        go_ret
        exact ⟨rfl, rfl⟩
    · rw [decide_eq_false (show ¬ (0 ≤ v ∧ v < 4294967296) by omega)]
      go_enter Try.func26, Try.ntmps26
      go_wp2
      all_goals
        go_ret
        exact ⟨rfl, rfl⟩
  · rw [decide_eq_false (show ¬ (0 ≤ v ∧ v < 4294967296) by omega)]
    go_enter Try.func26, Try.ntmps26
    go_wp2
    all_goals
      go_ret
      exact ⟨rfl, rfl⟩

/-- The cells of the first k bytes of n. -/
def putRow (v : Int) (n k : Nat) : Array Value := ((List.range n).map fun j => Value.int .u8 (if j < k then v / 256 ^ j % 256 else 0)).toArray
theorem putRow_size (v : Int) (n k : Nat) : (putRow v n k).size = n := by simp [putRow]
theorem putRow_zero (v : Int) (n : Nat) : Array.replicate n (.int .u8 0) = putRow v n 0 := by
  apply Array.ext <;> simp [putRow]

theorem putRow_at (v : Int) (n k : Nat) (h : k < n) : (putRow v n k)[k]? = some (.int .u8 0) := by
  simp [putRow, h]
theorem putNext (v : Int) (k : Nat) : v / 256 ^ (k + 1) = v / 256 ^ k / 256 := by
  rw [Int.pow_succ, Int.ediv_ediv_of_nonneg]
  exact Int.le_of_lt (Int.pow_pos (by decide))
theorem putBound (v : Int) (k : Nat) (h0 : 0 ≤ v) (h1 : v < 4294967296) : 0 ≤ v / 256 ^ k ∧ v / 256 ^ k < 4294967296 := by
  have hp : (0 : Int) < 256 ^ k := Int.pow_pos (by decide)
  exact ⟨Int.ediv_nonneg h0 (Int.le_of_lt hp), Int.lt_of_le_of_lt (Int.ediv_le_self _ h0) h1⟩
theorem putRow_next (v : Int) (n k : Nat) (h : k < n) : putRow v n (k + 1) = (putRow v n k).set! k (.int .u8 (v / 256 ^ k % 256)) := by
  apply Array.ext
  · simp [putRow]
  · intro i h1 h2
    by_cases hi : i = k
    · subst hi
      simp [putRow]
    · simp [putRow, Ne.symm hi, show (i < k + 1) = (i < k) from propext ⟨fun q => by omega, fun q => by omega⟩]
theorem and255 (x : Int) (h0 : 0 ≤ x) (h1 : x < 4294967296) : bits BinOp.and IntKind.i64 x 255 % 256 = x % 256 := by
  obtain ⟨X, rfl⟩ := Int.eq_ofNat_of_zero_le h0
  show IntKind.i64.wrap ((BitVec.ofInt 64 (X : Int) &&& BitVec.ofInt 64 ((255 : Nat) : Int)).toNat : Int) % 256 = _
  rw [BitVec.toNat_and, ofInt_u64 _ (by omega), ofInt_u64 _ (by omega), nat_mask8, IntKind.wrap_i64]
  omega

set_option maxRecDepth 100000 in
set_option maxHeartbeats 400000 in
theorem rPut_in (v : Int) (n : Nat) (h0 : 0 ≤ v) (h1 : v < 4294967296) (h2 : 1 ≤ n) (h3 : n ≤ 8) (w : World) :
    Calls Try.prog 29 #[.int .i64 v, .int .i64 (n : Int)] w fun e w' => e = .returned (.string (putB v n)) ∧ Below w.heap.size w w' := by
  have hmk := mkBytes w n (by omega)
  have hnum : ∀ u : World, Calls Try.prog 26 #[.int .i64 v] u fun e w' => e = .returned (.bool true) ∧ w' = u := fun u => by
    have := Number_is v u
    rwa [decide_eq_true (show 0 ≤ v ∧ v < 4294967296 from ⟨h0, h1⟩)] at this
  have HN := Lib.hid hnum
  clear hnum
  rw [putRow_zero v n] at hmk
  go_enter Try.func29, Try.ntmps29
  go_wp2_with (go_at_call 26; refine (HN.out _).mono ?_; rintro e w' ⟨rfl, rfl⟩)
  go_loopw [0, 6] (fun x i wr => ∃ (k : Nat), k ≤ n ∧ i = .int .i64 (k : Int) ∧ x = .int .i64 (v / 256 ^ k) ∧ wr = w'.alloc (.cells (putRow v n k) 5)) (fun _ i _ => n - (intOf i).toNat)
  case atStart => exact ⟨0, Nat.zero_le _, rfl, val_i64 (by simp), rfl⟩
  case round =>
    obtain ⟨k, hk, rfl, rfl, rfl⟩ := hrel
    by_cases hlt : k < n
    · have hck := putRow_at v n k hlt
      have HV := Lib.hid (And.intro (putNext v k) (putRow_next v n k hlt))
      have hx := putBound v k h0 h1
      obtain ⟨hx0, hx1⟩ := hx
      generalize hxe : v / 256 ^ k = x at *
      have HX := Lib.hid hxe
      clear hxe
      have hm : bits BinOp.and IntKind.i64 x 255 % 256 = x % 256 := and255 x hx0 hx1
      go_wp2
      exact ⟨⟨k + 1, by omega, by go_num, val_i64 HV.out.1.symm, by rw [HV.out.2, Array.set!_eq_setIfInBounds]⟩, by simp [intOf]; omega⟩
    · obtain rfl : k = n := by omega
      have hcv := conv_cells w' 5 (putRow v k k) (putL v k) k k (putL_len v k) (fun i hi => by simp [putRow, putL, hi])
      clear hlt hk hmk
      go_wp2
      go_ret
      exact ⟨rfl, (Below.refl _ _).alloc (Nat.le_refl _) _⟩
/-- The document's Put tells the same. -/
theorem rPut_is (v n : Int) (w : World) :
    Calls Try.prog 29 #[.int .i64 v, .int .i64 n] w fun e w' => e = .returned (.string (putS v n)) ∧ Below w.heap.size w w' := by
  by_cases h : 0 ≤ v ∧ v < 4294967296 ∧ 1 ≤ n ∧ n ≤ 8
  · have hs : putS v n = putB v n.toNat := if_pos h
    rw [hs]
    obtain ⟨h0, h1, h2, h3⟩ := h
    obtain ⟨m, rfl⟩ := Int.eq_ofNat_of_zero_le (show 0 ≤ n by omega)
    exact rPut_in v m h0 h1 (by omega) (by omega) w
  · have hs : putS v n = ByteArray.empty := if_neg h
    rw [hs]
    by_cases hv : 0 ≤ v ∧ v < 4294967296
    · have hn : n < 1 ∨ 8 < n := by omega
      have HN := Lib.hid (show ∀ u : World, Calls Try.prog 26 #[.int .i64 v] u fun e w' => e = .returned (.bool true) ∧ w' = u from fun u => by
        have := Number_is v u
        rwa [decide_eq_true hv] at this)
      clear h hs hv
      rcases hn with hn | hn
      all_goals
        go_enter Try.func29, Try.ntmps29
        go_wp2_with (go_at_call 26; refine (HN.out _).mono ?_; rintro e w' ⟨rfl, rfl⟩)
        all_goals
          go_ret
          exact ⟨rfl, Below.refl _ _⟩
    · have HN := Lib.hid (show ∀ u : World, Calls Try.prog 26 #[.int .i64 v] u fun e w' => e = .returned (.bool false) ∧ w' = u from fun u => by
        have := Number_is v u
        rwa [decide_eq_false hv] at this)
      clear h hs hv
      go_enter Try.func29, Try.ntmps29
      go_wp2_with (go_at_call 26; refine (HN.out _).mono ?_; rintro e w' ⟨rfl, rfl⟩)
      all_goals
        go_ret
        exact ⟨rfl, Below.refl _ _⟩
end Go.Proofs.Ytebeegfgghbdlaa
