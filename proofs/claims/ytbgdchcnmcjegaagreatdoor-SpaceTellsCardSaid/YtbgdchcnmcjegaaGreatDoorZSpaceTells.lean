/- SpaceTells: the walk. -/
import Derived.Test.YtbgdchcnmcjegaaGreatDoorZSpaceTellsT
import Derived.Test.YtbgdchcnmcjegaaGreatDoorZSpaceTellsF
set_option linter.unusedVariables false
set_option linter.unusedSimpArgs false
namespace Go.Proofs.YtbgdchcnmcjegaaGreatDoor
open Go.RowKit Sec
open Go.Proofs.YtbgdchcnmcjegaaGreatDoor.Bk

section
variable {W : World}
theorem Tells_walk (ht : TyOk W.heap.size W) (h l a b c d : Int) (q : Option Addr) (x : List Chg) (m : Nat) (hq : LiesAt W q (flat Chg.cells x)) (hx : x.length ≤ maxLen) : Calls Tryz.prog 3 #[.agg #[.int .i64 h, .int .i64 l], .slice q x.length m, .agg #[.int .i64 a, .int .i64 b, .int .i64 c, .int .i64 d]] W fun e w' => e = .returned (.bool true) ∧ Below W.heap.size W w' := by
  by_cases k : geOk h l = true ∧ h ≤ 60 ∧ x.length ≤ 30
  · obtain ⟨k0, k1, k2⟩ := k
    have hq2 := geOk_yes k0
    obtain ⟨H, rfl⟩ := Int.eq_ofNat_of_zero_le (show 0 ≤ h by omega)
    obtain ⟨L, rfl⟩ := Int.eq_ofNat_of_zero_le (show 0 ≤ l by omega)
    cases f : fineB H L a b c d
    · exact Tells_wrong ht H L a b c d k0 f (by omega) q x m hq k2
    · exact Tells_fine ht H L a b c d k0 f (by omega) q x m hq k2
  · exact Tells_no ht h l a b c d q x.length m (by unfold maxLen at hx; omega) k
end
end Go.Proofs.YtbgdchcnmcjegaaGreatDoor
