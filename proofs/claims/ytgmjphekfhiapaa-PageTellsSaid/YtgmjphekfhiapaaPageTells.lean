/- PageTells' walk, all cases. -/
import Derived.Test.YtgmjphekfhiapaaPageTellsA
import Derived.Test.YtgmjphekfhiapaaPageTellsB
import Derived.Test.YtgmjphekfhiapaaPageTellsC
namespace Go.Proofs.Ytgmjphekfhiapaa
open Go.RowKit
open Go.Proofs.Ytgmjphekfhiapaa.Bk

set_option maxRecDepth 100000 in
set_option maxHeartbeats 1000000 in
theorem Tells_much (no v most u sp at_ cb : Int) (raw : Bool) (a3 a4 : Option Addr) (la lb : List Int) (c3 c4 : Nat) (w : World) (m3 : la.length ≤ maxLen) (m4 : lb.length ≤ maxLen) (h : 30 < la.length ∨ (la.length ≤ 30 ∧ 30 < lb.length)) :
    Calls Try.prog 3 #[.int .i64 no, .int .i64 v, .int .i64 most, .slice a3 la.length c3, .slice a4 lb.length c4, .int .i64 u, .bool raw, .int .i64 sp, .int .i64 at_, .int .u8 cb] w fun e w' => e = .returned (.bool true) ∧ Below w.heap.size w w' := by
  have hB : Hid (Below w.heap.size w w) := Lib.hid (Below.refl _ _)
  have HA := Lib.hid (fun z => alive_is z)
  unfold maxLen at m3 m4
  rcases h with h | ⟨h, h'⟩
  · have hi : (30 : Int) < (la.length : Int) := by omega
    go_enter Try.func3, Try.ntmps3
    go_wp2_with (go_at_call 4; refine (HA.out _).mono ?_; rintro e w1 ⟨rfl, b1⟩; replace hB := Lib.hid (below_next hB.out b1); clear b1)
    all_goals
      go_ret
      exact ⟨rfl, hB.out⟩
  · have hi : (la.length : Int) ≤ 30 := by omega
    have hi2 : (30 : Int) < (lb.length : Int) := by omega
    go_enter Try.func3, Try.ntmps3
    go_wp2_with (go_at_call 4; refine (HA.out _).mono ?_; rintro e w1 ⟨rfl, b1⟩; replace hB := Lib.hid (below_next hB.out b1); clear b1)
    all_goals
      go_ret
      exact ⟨rfl, hB.out⟩
theorem Tells_walk (no v most u sp at_ cb : Int) (raw : Bool) (hcb0 : 0 ≤ cb) (hcb1 : cb < 256) (a3 a4 : Option Addr) (la lb : List Int) (c3 c4 : Nat) (w : World) (ha : LiesAt w a3 (vals la)) (hb : LiesAt w a4 (vals lb)) (m3 : la.length ≤ maxLen) (m4 : lb.length ≤ maxLen) :
    Calls Try.prog 3 #[.int .i64 no, .int .i64 v, .int .i64 most, .slice a3 la.length c3, .slice a4 lb.length c4, .int .i64 u, .bool raw, .int .i64 sp, .int .i64 at_, .int .u8 cb] w fun e w' => e = .returned (.bool true) ∧ Below w.heap.size w w' := by
  by_cases h3 : la.length ≤ 30
  · by_cases h4 : lb.length ≤ 30
    · cases raw with
      | true =>
        cases ok : pgOk no v la with
        | false => exact Tells_raw_no no v most u at_ cb hcb0 hcb1 a3 a4 la lb c3 c4 w ha hb h3 h4 ok sp
        | true =>
          by_cases hs : sp = 0
          · subst hs
            exact Tells_raw_flat no v most u at_ cb hcb0 hcb1 a3 a4 la lb c3 c4 w ha hb h3 h4 ok
          · exact Tells_raw_spoilt no v most u at_ cb hcb0 hcb1 a3 a4 la lb c3 c4 w ha hb h3 h4 ok sp (by simpa using hs) (by simpa using hs)
      | false =>
        cases ok : pgOk no v (padL la) with
        | false => exact Tells_pad_no no v most u at_ cb hcb0 hcb1 a3 a4 la lb c3 c4 w ha hb h3 h4 ok sp
        | true =>
          by_cases hs : sp = 0
          · subst hs
            exact Tells_pad_flat no v most u at_ cb hcb0 hcb1 a3 a4 la lb c3 c4 w ha hb h3 h4 ok
          · exact Tells_pad_spoilt no v most u at_ cb hcb0 hcb1 a3 a4 la lb c3 c4 w ha hb h3 h4 ok sp (by simpa using hs) (by simpa using hs)
    · exact Tells_much no v most u sp at_ cb raw a3 a4 la lb c3 c4 w m3 m4 (.inr ⟨h3, by omega⟩)
  · exact Tells_much no v most u sp at_ cb raw a3 a4 la lb c3 c4 w m3 m4 (.inl (by omega))
end Go.Proofs.Ytgmjphekfhiapaa
