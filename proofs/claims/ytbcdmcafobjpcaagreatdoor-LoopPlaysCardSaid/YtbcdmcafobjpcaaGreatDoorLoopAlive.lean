/- The law's helper alive: it answers true. -/
import Derived.Test.YtbcdmcafobjpcaaGreatDoorLoopLg
import Derived.OwnWalk
namespace Go.Proofs.YtbcdmcafobjpcaaGreatDoor
open Go.RowKit Sec
open Go.Proofs.YtbcdmcafobjpcaaGreatDoor.Bk

def alc : List Chg := [⟨1, 7⟩, ⟨2, 8⟩]
theorem alc_ok : grOk (0 : Nat) 1 alc = true := by
  have h : groupL (0 : Nat) 1 alc = [⟨1, 0, 1, 1, 7⟩, ⟨1, 1, 1, 2, 8⟩, ⟨2, 2, 1, 2, 0⟩] := by simp [groupL, gHead, gEnt, gEnd, alc, wrap64]
  unfold grOk
  rw [h]
  decide
theorem lim0 {fr n hd : Nat} {ep : Int} {K : Nat} (f : fr + n ≤ 3000) (m : n ≤ 1000) (h : hd < 1000000000) (e0 : 0 ≤ ep) (e1 : ep < 1000000000) (k : K < 2 ^ 50) : Lim fr n hd ep K := ⟨f, m, h, e0, e1, k⟩

set_option maxRecDepth 100000 in
set_option maxHeartbeats 1000000 in
theorem lalive_is (w : World) (ht : TyOk w.heap.size w) : Calls Tryz.prog 4 #[] w fun e w' => e = .returned (.bool true) ∧ Below w.heap.size w w' := by
  have HT := Lib.hid ht
  have HL : Hid (∀ u : World, LiesAt (u.alloc (.cells #[.int .i64 1, .int .i64 7, .int .i64 2, .int .i64 8] 55)) (some ⟨u.heap.size, 0, none⟩) (flat Chg.cells alc)) := Lib.hid (fun u j v hv => ⟨_, rfl, by simp, World.news_of_block (heap_alloc_last _ _) j v hv⟩)
  clear ht
  go_enter Tryz.func4, Tryz.ntmps4
  go_wp2_with (first
    | (go_at_call 5
       refine (New_k 20 _ HT.out (Nat.le_refl _)).mono ?_
       rintro e w1 ⟨p, rfl, A1, b1, hp⟩
       have H1 : Hid (AtK w.heap.size (fun b => b < w.heap.size) w1 p (newD 20) ∧ Below w.heap.size w w1) := Lib.hid ⟨A1, b1⟩
       clear A1 b1 hp)
    | (go_at_call 6
       refine (lg_new H1.out.1 4 8 0 1 (by omega) (by omega) (by omega) (by omega) (by omega)).mono ?_
       rintro e w2 ⟨q, rfl, A2, b2⟩
       have H2 := Lib.hid (And.intro (A2.below ((Below.refl _ _).alloc (Nat.le_refl _) (.cells #[.int .i64 1, .int .i64 7, .int .i64 2, .int .i64 8] 55))) (And.intro A2.le (H1.out.2.trans (b2.mono H1.out.2.size))))
       clear A2 b2)
    | (go_at_call 8
       refine (lg_append H2.out.1 (lim0 (by omega) (by omega) (by omega) (by omega) (by omega) (by omega)) _ alc 2 (HL.out _) (by decide)).mono ?_
       rintro e w3 ⟨x, nx, all, rfl, A3, b3, g3, hx⟩
       rcases hx with ⟨rfl, rfl, rfl, _, _⟩ | ⟨_, _, _, q⟩
       rotate_left
       · exfalso
         rcases q with q | q
         · rw [alc_ok] at q; cases q
         · exact q (by decide)
       have H3 : Hid (Lg w.heap.size (fun b => b < w.heap.size) w3 q p 4 8 0 3 1 alc 4 ∧ Below w.heap.size w w3) := Lib.hid ⟨A3, (H2.out.2.2.alloc H2.out.2.1 _).trans b3⟩
       clear A3 b3 g3)
    | (go_at_call 13
       refine (lg_scan H3.out.1 (lim0 (by omega) (by omega) (by omega) (by omega) (by omega) (by omega))).mono ?_
       rintro e w4 ⟨v, rfl, b4, o4⟩
       obtain ⟨a4, c4, rfl, _⟩ := own_formK o4
       have H4 := Lib.hid (And.intro (H3.out.1.below b4) (H3.out.2.trans (b4.mono H3.out.2.size)))
       clear b4 o4)
    | (go_at_call 20; refine (lg_next H4.out.1).mono ?_; rintro e w5 ⟨rfl, rfl⟩)
    | (go_at_call 21; refine (lg_room H4.out.1 (lim0 (by omega) (by omega) (by omega) (by omega) (by omega) (by omega))).mono ?_; rintro e w6 ⟨rfl, b6⟩; have H6 := Lib.hid (And.intro (H4.out.1.below b6) (H4.out.2.trans (b6.mono H4.out.2.size))))
    | (go_at_call 19; refine (lg_head H6.out.1).mono ?_; rintro e w7 ⟨rfl, rfl⟩))
  go_ret
  exact ⟨rfl, H6.out.2⟩
end Go.Proofs.YtbcdmcafobjpcaaGreatDoor
