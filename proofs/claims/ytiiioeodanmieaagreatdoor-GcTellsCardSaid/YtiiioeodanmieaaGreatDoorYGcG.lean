import Derived.Test.YtiiioeodanmieaaGreatDoorYGcC
import Derived.Test.YtiiioeodanmieaaGreatDoorYAllocA
import Derived.Test.YtiiioeodanmieaaGreatDoorYGcF
import Derived.Test.YtiiioeodanmieaaGreatDoorYGcE
import Derived.Test.YtiiioeodanmieaaGreatDoorYAllocB
import Derived.Test.YtiiioeodanmieaaGreatDoorYField
import Derived.Test.YtiiioeodanmieaaGreatDoorYGeo
set_option linter.unusedVariables false
set_option linter.unusedSimpArgs false
-- GcFresh
namespace Go.Proofs.YtiiioeodanmieaaGreatDoor
open Go.RowKit Sec
open Go.Proofs.YtiiioeodanmieaaGreatDoor.Bk

end Go.Proofs.YtiiioeodanmieaaGreatDoor
-- GcStart
namespace Go.Proofs.YtiiioeodanmieaaGreatDoor
open Go.RowKit Sec
open Go.Proofs.YtiiioeodanmieaaGreatDoor.Bk

section
variable {H L : Nat}
end
end Go.Proofs.YtiiioeodanmieaaGreatDoor
-- GcLaws
namespace Go.Proofs.YtiiioeodanmieaaGreatDoor
open Go.RowKit Sec
open Go.Proofs.YtiiioeodanmieaaGreatDoor.Bk

def ga1 : List Int := newW (20 : Nat) (6 : Nat) (freshC 20) 0 2
def ga2 : List Int := newW (20 : Nat) (6 : Nat) ga1 0 1
def ga3 : List Int := srW (20 : Nat) (6 : Nat) ga2 0 19
def ga4 : List Int := (alg (20 : Nat) (6 : Nat) ga3 [19]).2.2
theorem ga_at : (newE (20 : Nat) (6 : Nat) ga1 0 1 = 0 ∧ newA (20 : Nat) (6 : Nat) ga1 0 1 = 19) ∧ srE (20 : Nat) (6 : Nat) ga2 0 19 = 0 ∧ hGc ga3 = 0 := by decide +kernel
theorem ga_all : (alg (20 : Nat) (6 : Nat) ga3 [19]).1 = 0 ∧ (alg (20 : Nat) (6 : Nat) ga3 [19]).2.1 = [36] ∧ hOk (20 : Nat) (6 : Nat) ga4 = true ∧ hFr ga4 - (16 + hSp ga4 * ((20 : Nat) : Int)) = 2 ∧ hGc ga4 = 0 := by decide +kernel
set_option maxRecDepth 100000 in
set_option maxHeartbeats 4000000 in
theorem gcalive_is {w : World} (ht : TyOk w.heap.size w) : Calls Tryz.prog 12 #[] w fun e w' => e = .returned (.bool true) ∧ Below w.heap.size w w' := by
  obtain ⟨⟨p1, q1⟩, p2, p3⟩ := ga_at
  obtain ⟨p4, q4, p5, p6, p7⟩ := ga_all
  have HB : Hid (Calls Tryz.prog 48 #[.agg #[.int .i64 20, .int .i64 6]] w fun r w' => ∃ s p, r = .returned (.tuple #[.pointer (some ⟨p, 0, none⟩), .pointer (some ⟨s, 0, none⟩)]) ∧ St w.heap.size (fun b => b < w.heap.size) w' s 20 6 (freshC 20) ∧ Below w.heap.size w w') := Lib.hid (Begin_st ht 20 6 (by omega))
  have HN1 : Hid (∀ B G u s, St B G u s 20 6 (freshC 20) → Calls Tryz.prog 25 #[.pointer (some ⟨s, 0, none⟩), .int .i64 0, .int .i64 2] u fun e w' => (∃ a b, e = .returned (.tuple #[.int .i64 a, .int .i64 b])) ∧ St B G w' s 20 6 ga1 ∧ Below B u w' ∧ KeptG G u w') := Lib.hid (fun B G u s x => (anew_st x 0 2).mono fun e w' ⟨h1, h2⟩ => ⟨⟨_, _, h1⟩, h2⟩)
  have HN2 : Hid (∀ B G u s, St B G u s 20 6 ga1 → Calls Tryz.prog 25 #[.pointer (some ⟨s, 0, none⟩), .int .i64 0, .int .i64 1] u fun e w' => e = .returned (.tuple #[.int .i64 19, .int .i64 0]) ∧ St B G w' s 20 6 ga2 ∧ Below B u w' ∧ KeptG G u w') := Lib.hid (fun B G u s x => by
    have := anew_st x 0 1
    rwa [p1, q1] at this)
  have HSr : Hid (∀ B G u s, St B G u s 20 6 ga2 → Calls Tryz.prog 27 #[.pointer (some ⟨s, 0, none⟩), .int .i64 0, .int .i64 19] u fun e w' => e = .returned (.int .i64 0) ∧ St B G w' s 20 6 ga3 ∧ Below B u w' ∧ KeptG G u w') := Lib.hid (fun B G u s x => by
    have := fSetRoot_is x 0 19
    rwa [p2] at this)
  have HAl : Hid (∀ B G u s q, St B G u s 20 6 ga3 → Lent B G u q [19] → (q = none → 1 = 0) → Calls Tryz.prog 21 #[.pointer (some ⟨s, 0, none⟩), .slice q 1 1] u fun e w' => ∃ r, e = .returned (.tuple #[r, .int .i64 0]) ∧ St B G w' s 20 6 ga4 ∧ Below B u w' ∧ KeptG G u w' ∧ w'.ownsRow u.heap.size 3 1 r 1 (vals [36])) := Lib.hid (fun B G u s q x y hq => by
    have := gAll_off x q [19] 1 y hq (by rw [p3]; decide)
    rw [p4, q4] at this
    exact this.mono fun e w' ⟨r, h1, h2, h3⟩ => ⟨r, h1, h2.mono (fun _ g => .inl g), h3⟩)
  have HUs : Hid (∀ B G u s, St B G u s 20 6 ga4 → Calls Tryz.prog 39 #[.pointer (some ⟨s, 0, none⟩)] u fun e w' => e = .returned (.int .i64 2) ∧ Below u.heap.size u w') := Lib.hid (fun B G u s x => by
    have := spused_st x
    rwa [p5, if_pos rfl, p6] at this)
  have HOn : Hid (∀ B G u s, St B G u s 20 6 ga4 → Calls Tryz.prog 31 #[.pointer (some ⟨s, 0, none⟩)] u fun e w' => e = .returned (.bool false) ∧ Below u.heap.size u w') := Lib.hid (fun B G u s x => by
    have := gOn_is x
    rwa [p7, decide_eq_false (by decide)] at this)
  clear p1 q1 p2 p3 p4 q4 p5 p6 p7 ht
  generalize ga4 = V4 at *
  generalize ga3 = V3 at *
  generalize ga2 = V2 at *
  generalize ga1 = V1 at *
  generalize freshC 20 = V0 at *
  go_enter Tryz.func12, Tryz.ntmps12
  go_wp2_with (first
    | (go_at_call 48; refine HB.out.mono ?_; rintro e w1 ⟨s, p, rfl, h1, b1⟩; have H1 := Lib.hid (And.intro h1 b1); clear h1 b1)
    | (go_at_call 25; refine (HN1.out _ _ _ _ H1.out.1).mono ?_; rintro e w2 ⟨⟨a2, e2, rfl⟩, h2, b2, _⟩; have H2 := Lib.hid (And.intro h2 (H1.out.2.trans b2)); clear h2 b2; replace H1 := True.intro)
    | (go_at_call 25; refine (HN2.out _ _ _ _ H2.out.1).mono ?_; rintro e w3 ⟨rfl, h3, b3, _⟩; have H3 := Lib.hid (And.intro h3 (H2.out.2.trans b3)); clear h3 b3)
    | (go_at_call 27; refine (HSr.out _ _ _ _ H3.out.1).mono ?_; rintro e w4 ⟨rfl, h4, b4, _⟩; have H4 := Lib.hid (And.intro h4 (H3.out.2.trans b4)); clear h4 b4)
    | (go_at_call 21
       have y4 : Below w4.heap.size w4 (w4.alloc (.cells #[.int .i64 19] 3)) := (Below.refl _ _).alloc (Nat.le_refl _) _
       refine (HAl.out _ _ _ _ _ (H4.out.1.more y4) ⟨fun j u hu => ⟨_, rfl, by simp, World.news_of_block (heap_alloc_last _ _) j u hu⟩, fun x e => by obtain rfl := Option.some.inj e; exact .inr (.inr ⟨Nat.le_refl _, by simp⟩), by decide⟩ (fun q => by cases q)).mono ?_
       rintro e w5 ⟨r5, rfl, h5, b5, _, o5⟩
       obtain ⟨g5, c5, rfl, _, _, _⟩ := own_blk o5 (by decide)
       have d5 : w5.cell? ⟨g5, 0, none⟩ = some (.int .i64 36) := (owns_cell o5 (k := 0) rfl).1
       have H5 := Lib.hid (And.intro h5 (H4.out.2.trans ((y4.mono H4.out.1.le).trans b5)))
       clear h5 b5 o5 y4)
    | (go_at_call 39; refine (HUs.out _ _ _ _ H5.out.1).mono ?_; rintro e w6 ⟨rfl, b6⟩; have H6 := Lib.hid (And.intro (H5.out.1.below b6) (geo_next H5.out.2 b6)); clear b6)
    | (go_at_call 31; refine (HOn.out _ _ _ _ H6.out.1).mono ?_; rintro e w7 ⟨rfl, b7⟩; have H7 := Lib.hid (geo_next H6.out.2 b7); clear b7))
  go_ret
  exact ⟨rfl, H7.out⟩
end Go.Proofs.YtiiioeodanmieaaGreatDoor
