/- The law's helper alive: it answers true. -/
import Derived.Test.YtcobncjdnljhdaaSealMath
namespace Go.Proofs.Ytcobncjdnljhdaa
open Go.RowKit

theorem below_next {w w1 w2 : World} (h1 : Below w.heap.size w w1) (h2 : Below w1.heap.size w1 w2) : Below w.heap.size w w2 := h1.trans (h2.mono h1.size)
def abS : ByteArray := ⟨#[97, 98]⟩
theorem ab_seal : sealS abS 10 = sealB abS 10 := if_pos ⟨by omega, by omega, by show (2 : Int) ≤ _; omega⟩
theorem ab_size : (sealB abS 10).size = 10 := sealB_size _ _ (by omega) (by show 2 ≤ _; omega)
theorem ab_opens : opens (sealB abS 10) = true ∧ openS (sealB abS 10) = ⟨#[97, 98, 0, 0, 0, 0]⟩ := by
  obtain ⟨h1, h2⟩ := sealB_opens abS 10
  exact ⟨h1, by rw [h2]; decide⟩
theorem p258 : getI (putS 258 4) = 258 := by rw [putS_4 _ (by omega) (by omega), getI_put 258 4 (by omega) (by omega) (by omega) (by omega)]
theorem p258_size : (putS 258 4).size ≤ maxLen := by rw [putS_4 _ (by omega) (by omega), putB_size]; unfold maxLen; omega

set_option maxRecDepth 100000 in
theorem alive_is (w : World) : Calls Try.prog 8 #[] w fun e w' => e = .returned (.bool true) ∧ Below w.heap.size w w' := by
  have H1 := Lib.hid (fun w : World => ab_seal ▸ Seal_is abS 10 (by show 2 ≤ _; unfold maxLen; omega) w)
  have H2 := Lib.hid (fun w : World => Open_is (sealB abS 10) (by rw [ab_size]; omega) w)
  rw [ab_opens.1, ab_opens.2] at H2
  have hs := ab_size
  have H4 := Lib.hid (fun w : World => Put_is 258 4 w)
  have H5 := Lib.hid (fun w : World => p258 ▸ Get_is (putS 258 4) p258_size w)
  have H6 := Lib.hid (fun w : World => Sum_is ⟨#[]⟩ w (by show 0 ≤ _; unfold maxLen; omega))
  generalize sealB abS 10 = s at *
  generalize putS 258 4 = p at *
  have hB := Below.refl w.heap.size w
  go_enter Try.func8, Try.ntmps8
  go_wp2_with (first
    | (go_at_call 11; refine (H1.out _).mono ?_; rintro e w1 ⟨rfl, b1⟩; replace hB := below_next hB b1; clear b1)
    | (go_at_call 9; refine (H2.out _).mono ?_; rintro e w2 ⟨rfl, b1⟩; replace hB := below_next hB b1; clear b1)
    | (go_at_call 14; refine (H4.out _).mono ?_; rintro e w2 ⟨rfl, b1⟩; replace hB := below_next hB b1; clear b1)
    | (go_at_call 16; refine (H5.out _).mono ?_; rintro e w2 ⟨rfl, rfl⟩)
    | (go_at_call 12; refine (H6.out _).mono ?_; rintro e w2 ⟨rfl, rfl⟩))
  go_ret
  exact ⟨rfl, hB⟩
end Go.Proofs.Ytcobncjdnljhdaa
