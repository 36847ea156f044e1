/- Seal and Open, the project's and the document's own. -/
import Derived.Test.YtbcdmcafobjpcaaGreatDoorSealRPut
import Derived.Test.YtbcdmcafobjpcaaGreatDoorShelf
namespace Go.Proofs.YtbcdmcafobjpcaaGreatDoor
open Go.RowKit

def zeros (k : Nat) : ByteArray := ⟨Array.replicate k 0⟩
theorem zeros_size (k : Nat) : (zeros k).size = k := by simp [zeros, ByteArray.size]
def sealBody (b : ByteArray) (n : Nat) : ByteArray := b ++ zeros (n - 4 - b.size)
def sealB (b : ByteArray) (n : Nat) : ByteArray := sealBody b n ++ putS (sumI (sealBody b n).data.toList) 4
def sealS (b : ByteArray) (n : Int) : ByteArray := if 4 ≤ n ∧ n ≤ 200 ∧ (b.size : Int) ≤ n - 4 then sealB b n.toNat else ByteArray.empty
theorem sealBody_size (b : ByteArray) (n : Nat) (h : b.size ≤ n - 4) : (sealBody b n).size = n - 4 := by
  rw [sealBody, ByteArray.size_append, zeros_size]; omega

theorem rep_zeros (c : Nat) (h1 : c ≤ 1000) (w : World) :
    Calls Tryz.prog 103 #[.string ⟨#[0]⟩, .int .i64 (c : Int)] w fun e w' => e = .returned (.string (zeros c)) ∧ Below w.heap.size w w' := by
  refine (Tryz.strings_Repeat ⟨#[0]⟩ c w (by omega) (by show 1 * c ≤ _; omega)).mono ?_
  rintro e w' ⟨rfl, hb⟩
  refine ⟨?_, hb⟩
  have : ∀ c : Nat, Lib.repeatL [(0 : UInt8)] c = List.replicate c 0 := fun c => by
    induction c with
    | zero => rfl
    | succ c ih => simp [Lib.repeatL, List.replicate_succ] at ih ⊢; try exact ih
  refine ret_str ?_
  show ByteArray.mk (Lib.repeatL [(0 : UInt8)] c).toArray = _
  rw [this]
  simp [zeros]

theorem sealBody_def (b : ByteArray) (n c : Nat) (h : c = n - 4 - b.size) : b ++ zeros c = sealBody b n := by rw [sealBody, h]
set_option maxRecDepth 100000 in
theorem Seal_in (b : ByteArray) (n : Nat) (h0 : 4 ≤ n) (h1 : n ≤ 200) (h2 : b.size ≤ n - 4) (w : World) :
    Calls Tryz.prog 93 #[.string b, .int .i64 (n : Int)] w fun e w' => e = .returned (.string (sealB b n)) ∧ Below w.heap.size w w' := by
  have h3 : (b.size : Int) ≤ (n : Int) - 4 := by omega
  have hc : ∃ c : Nat, c = n - 4 - b.size := ⟨n - 4 - b.size, rfl⟩
  obtain ⟨c, hc2⟩ := hc
  have hc : (n : Int) - 4 - (b.size : Int) = (c : Int) := by omega
  have hcs : c ≤ 200 := by omega
  have HC := Lib.hid hc2
  have HB := Lib.hid (show b ++ zeros c = sealBody b n from sealBody_def b n c hc2)
  have hbs := sealBody_size b n h2
  have HS := Lib.hid hbs
  have hzb : b.size + (zeros c).size ≤ 9223372036854775807 := by rw [zeros_size]; omega
  clear hc2 hbs
  go_enter Tryz.func93, Tryz.ntmps93
  go_wp2_with (go_at_call 103; refine (rep_zeros c (by omega) _).mono ?_; rintro e w1 ⟨rfl, b1⟩)
  rw [HB.out]
  have hr := sumI_range (sealBody b n).data.toList
  obtain ⟨hr0, hr1⟩ := hr
  have HM := Lib.hid (show (sealBody b n).size ≤ maxLen by rw [HS.out]; unfold maxLen; omega)
  have htb : (sealBody b n).size + (putS (sumI (sealBody b n).data.toList) 4).size ≤ 9223372036854775807 := by
    rw [HS.out, show putS (sumI (sealBody b n).data.toList) 4 = putB (sumI (sealBody b n).data.toList) 4 from if_pos ⟨hr0, hr1, by omega, by omega⟩, putB_size]; omega
  have HE := Lib.hid (show sealB b n = sealBody b n ++ putS (sumI (sealBody b n).data.toList) 4 from rfl)
  generalize sealBody b n = t at *
  refine (Sum_is t _ HM.out).mono ?_
  rintro e w2 ⟨rfl, rfl⟩
  generalize sumI t.data.toList = x at *
  go_wp2_with (go_at_call 92; refine (Put_is x 4 _).mono ?_; rintro e w3 ⟨rfl, b3⟩)
  go_ret
  exact ⟨ret_str HE.out.symm, b1.trans (b3.mono b1.size)⟩

set_option maxRecDepth 100000 in
theorem Seal_out (b : ByteArray) (n : Int) (hb : b.size ≤ maxLen) (h : ¬ (4 ≤ n ∧ n ≤ 200 ∧ (b.size : Int) ≤ n - 4)) (w : World) :
    Calls Tryz.prog 93 #[.string b, .int .i64 n] w fun e w' => e = .returned (.string ByteArray.empty) ∧ Below w.heap.size w w' := by
  unfold maxLen at hb
  have : n < 4 ∨ 200 < n ∨ (4 ≤ n ∧ n ≤ 200 ∧ n - 4 < (b.size : Int)) := by omega
  clear h
  rcases this with h | h | ⟨h1, h2, h3⟩
  all_goals
    go_enter Tryz.func93, Tryz.ntmps93
    go_wp2
    all_goals
      go_ret
      exact ⟨rfl, Below.refl _ _⟩
theorem Seal_is (b : ByteArray) (n : Int) (hb : b.size ≤ maxLen) (w : World) :
    Calls Tryz.prog 93 #[.string b, .int .i64 n] w fun e w' => e = .returned (.string (sealS b n)) ∧ Below w.heap.size w w' := by
  by_cases h : 4 ≤ n ∧ n ≤ 200 ∧ (b.size : Int) ≤ n - 4
  · rw [show sealS b n = sealB b n.toNat from if_pos h]
    obtain ⟨h0, h1, h2⟩ := h
    obtain ⟨m, rfl⟩ := Int.eq_ofNat_of_zero_le (show 0 ≤ n by omega)
    exact Seal_in b m (by omega) (by omega) (by omega) w
  · rw [show sealS b n = ByteArray.empty from if_neg h]
    exact Seal_out b n hb h w

theorem conv_zeros (w : World) (c : Nat) :
    (convert 157 9 (.slice (some ⟨w.heap.size, 0, none⟩) c c)).run Tryz.prog (w.alloc (.cells (Array.replicate c (.int .u8 0)) 5)) = .ok (.string (zeros c)) (w.alloc (.cells (Array.replicate c (.int .u8 0)) 5)) := by
  have := conv_cells w 5 (Array.replicate c (.int .u8 0)) (List.replicate c 0) c c (by simp) (fun i hi => by simp [hi])
  rw [this]
  simp [strOfNums, zeros]
end Go.Proofs.YtbcdmcafobjpcaaGreatDoor
