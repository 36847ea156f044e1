/- The law's helper alive: it answers true. The document's own geometry. -/
import Derived.Test.YtngfijpdbjkpiaaGeoIs
namespace Go.Proofs.Ytngfijpdbjkpiaa
open Go.RowKit

set_option maxRecDepth 100000 in
set_option maxHeartbeats 1000000 in
theorem galive_is (w : World) : Calls Try.prog 6 #[] w fun e w' => e = .returned (.bool true) ∧ Below w.heap.size w w' := by
  have H1 := Lib.hid (fun u => gright_is 8 4 u)
  have H2 := Lib.hid (fun u => gcells_is 8 4 u)
  have H3 := Lib.hid (fun u => gpages_is 8 4 u)
  have H4 := Lib.hid (fun u => glog_is 8 4 u)
  have H5 := Lib.hid (fun u => gsectors_is 8 4 u)
  have H6 := Lib.hid (fun u => gbase_is 8 4 1 u)
  rw [show gOk 8 4 = true by decide] at H1
  rw [show gCells 8 4 = 32 by decide] at H2
  rw [show gPages 8 4 = 2 by decide] at H3
  rw [show gLog 8 4 = 14 by decide] at H4
  rw [show gSectors 8 4 = 18 by decide] at H5
  rw [show gBase 8 4 1 = 24 by decide] at H6
  go_enter Try.func6, Try.ntmps6
  go_wp2_with (first
    | (go_at_call 8; refine (H1.out _).mono ?_; rintro e w1 ⟨rfl, b1⟩; have HK := Lib.hid (GBox.laid b1); obtain ⟨_, c0, c1⟩ := HK.out.1; clear b1)
    | (go_at_call 9; refine (H2.out _).mono ?_; rintro e w2 ⟨rfl, b2⟩; replace HK := Lib.hid (And.intro (HK.out.1.below b2) (geo_next HK.out.2 b2)); obtain ⟨_, c0, c1⟩ := HK.out.1; clear b2)
    | (go_at_call 10; refine (H3.out _).mono ?_; rintro e w3 ⟨rfl, b3⟩; replace HK := Lib.hid (And.intro (HK.out.1.below b3) (geo_next HK.out.2 b3)); obtain ⟨_, c0, c1⟩ := HK.out.1; clear b3)
    | (go_at_call 12; refine (H4.out _).mono ?_; rintro e w4 ⟨rfl, b4⟩; replace HK := Lib.hid (And.intro (HK.out.1.below b4) (geo_next HK.out.2 b4)); obtain ⟨_, c0, c1⟩ := HK.out.1; clear b4)
    | (go_at_call 13; refine (H5.out _).mono ?_; rintro e w5 ⟨rfl, b5⟩; replace HK := Lib.hid (And.intro (HK.out.1.below b5) (geo_next HK.out.2 b5)); obtain ⟨_, c0, c1⟩ := HK.out.1; clear b5)
    | (go_at_call 14; refine (H6.out _).mono ?_; rintro e w6 ⟨rfl, b6⟩; replace HK := Lib.hid (And.intro (HK.out.1.below b6) (geo_next HK.out.2 b6)); obtain ⟨_, c0, c1⟩ := HK.out.1; clear b6))
  go_ret
  exact ⟨rfl, HK.out.2⟩
end Go.Proofs.Ytngfijpdbjkpiaa
