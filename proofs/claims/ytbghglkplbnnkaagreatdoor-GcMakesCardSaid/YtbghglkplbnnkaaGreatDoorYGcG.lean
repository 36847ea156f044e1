import Derived.Test.YtbghglkplbnnkaaGreatDoorYGcF
import Derived.Test.YtbghglkplbnnkaaGreatDoorYGcC
import Derived.Test.YtbghglkplbnnkaaGreatDoorYAllocA
import Derived.Test.YtbghglkplbnnkaaGreatDoorYGcE
import Derived.Test.YtbghglkplbnnkaaGreatDoorYAllocB
import Derived.Test.YtbghglkplbnnkaaGreatDoorYField
import Derived.Test.YtbghglkplbnnkaaGreatDoorYGeo
set_option linter.unusedVariables false
set_option linter.unusedSimpArgs false
-- GcAny
namespace Go.Proofs.YtbghglkplbnnkaaGreatDoor
open Go.RowKit

section
variable {H L : Nat} {V T O : List Int} {Z : Int → Int}
theorem Fin.sword (f : Fin H L V T Z) {t i v : Int} (ht : t ∈ T) : Fin H L (swW H L V t i v) T Z := by
  by_cases e : swE H L V t i v = 0
  · have g := f.gi
    obtain ⟨o, e1, es, ew⟩ := g.obj ht
    have hE := e
    rw [swE, if_pos e1] at hE
    by_cases hv : hbNum v = true
    · rw [if_pos hv] at hE
      by_cases hi : i < 0 ∨ shpW H L V t ≤ i
      · rw [if_pos hi] at hE
        exact absurd hE (by decide)
      · obtain ⟨_, q2, q3⟩ := g.sword (i := i) (v := v) ht (by omega) (by rw [← ew]; omega) hv
        have hn := of_decide_eq_true hv
        have c16 := (g.wordC q3).1
        rw [q2]
        exact ⟨g.setw q3 (by omega) (by omega), by rw [hGc, getD_set_ne (by omega)]; exact f.off⟩
    · rw [if_neg hv] at hE
      exact absurd hE (by decide)
  · rw [swW, if_neg e]
    exact f
theorem Fin.put (f : Fin H L V T Z) {t i v : Int} (ht : t ∈ T) (hv : v = 0 ∨ v ∈ T) : Fin H L (ptW H L V t i v) T Z := by
  by_cases e : ptE H L V t i v = 0
  · have g := f.gi
    obtain ⟨o, e1, es, ew⟩ := g.obj ht
    have hE := e
    rw [ptE, if_pos e1, if_pos (hv.imp id (fun h => (g.obj h).1))] at hE
    by_cases hi : i < 0 ∨ shpS H L V t ≤ i
    · rw [if_pos hi] at hE
      exact absurd hE (by decide)
    · obtain ⟨_, q2, q3⟩ := g.put (i := i) (v := v) ht (by omega) (by rw [← es]; omega) hv
      have c8 := (g.refC q3).1
      rw [q2]
      exact ⟨g.setr q3 (hv.imp id .inl), by rw [hGc, getD_set_ne (by omega)]; exact f.off⟩
  · rw [ptW, if_neg e]
    exact f
theorem Fin.sroot (f : Fin H L V T Z) {i a : Int} (ha : a = 0 ∨ a ∈ T) : Fin H L (srW H L V i a) T Z := by
  by_cases e : srE H L V i a = 0
  · have g := f.gi
    have hi : 0 ≤ i ∧ i < 8 := by
      by_cases c : i < 0 ∨ 8 ≤ i
      · rw [srE, if_pos c] at e
        exact absurd e (by decide)
      · omega
    obtain ⟨_, q2, q3⟩ := g.sroot (i := i) (a := a) hi.1 hi.2 ha
    have c8 := (g.refC q3).1
    rw [q2]
    exact ⟨g.setr q3 (ha.imp id .inl), by rw [hGc, getD_set_ne (by omega)]; exact f.off⟩
  · rw [srW, if_neg e]
    exact f
theorem Fin.make (f : Fin H L V T Z) (s x : Int) : (newE H L V s x = 0 ∧ Fin H L (newW H L V s x) (T ++ [newA H L V s x]) Z) ∨ (newE H L V s x ≠ 0 ∧ newW H L V s x = V) := by
  by_cases e : newE H L V s x = 0
  · obtain ⟨a, n, m⟩ := new_yes (h := (H : Int)) (l := (L : Int)) (by have := f.gi.len; omega) e
    obtain ⟨g2, _, _, _, r⟩ := f.gi.new m
    obtain ⟨c0, c1, c2, c3⟩ := m.ctl
    rw [m.fr, ← m.ad] at g2
    exact .inl ⟨e, g2, c2.trans f.off⟩
  · exact .inr ⟨e, (new_no e).1⟩
end
end Go.Proofs.YtbghglkplbnnkaaGreatDoor
-- GcFresh
namespace Go.Proofs.YtbghglkplbnnkaaGreatDoor
open Go.RowKit Sec
open Go.Proofs.YtbghglkplbnnkaaGreatDoor.Bk

theorem fresh_at (H i : Nat) (h1 : i ≠ 1) : (freshC H).getD i 0 = 0 := by
  rw [freshC, getD_set_ne (fun e => h1 e.symm), List.getD_eq_getElem?_getD, List.getElem?_replicate]
  split <;> rfl
theorem fresh_num (H : Nat) : NumC (freshC H) := fun i => by
  by_cases e : i = 1
  · subst e
    have := (fresh_ctl H).2.1
    rw [hFr] at this
    rw [this]
    exact ⟨by decide, by decide⟩
  · rw [fresh_at H i e]
    exact ⟨by decide, by decide⟩
theorem Gi.fresh {H L : Nat} (hg : geOk H L = true) (Z : Int → Int) : Gi H L (freshC H) [] [] Z := by
  refine ⟨freshC_len H, fresh_ok hg, fresh_num H, ?_, fun o ho => (by cases ho), List.Pairwise.nil, fun o ho => (by cases ho), fun q => absurd rfl q, fun x hx => ?_, fun t ht => (by cases ht), fun o ho => (by cases ho)⟩
  · exact fresh_objs hg
  · obtain ⟨i, hi, rfl⟩ := List.mem_map.1 hx
    exact .inl (fresh_at H _ (by show (8 : Int).toNat + i ≠ 1; have : (8 : Int).toNat = 8 := rfl; omega))
end Go.Proofs.YtbghglkplbnnkaaGreatDoor
-- GcStart
namespace Go.Proofs.YtbghglkplbnnkaaGreatDoor
open Go.RowKit Sec
open Go.Proofs.YtbghglkplbnnkaaGreatDoor.Bk

section
variable {H L : Nat}
theorem Fin.fresh (hg : geOk H L = true) (Z : Int → Int) : Fin H L (freshC H) [] Z ∧ celL (freshC H) 8 8 = List.replicate 8 0 := by
  obtain ⟨c0, c1, c2, c3⟩ := fresh_ctl H
  refine ⟨⟨Gi.fresh hg Z, c2⟩, ?_⟩
  have e : ∀ i, i < 8 → (freshC H).getD ((8 : Int).toNat + i) 0 = 0 := fun i hi => fresh_at H _ (by have : (8 : Int).toNat = 8 := rfl; omega)
  rw [celL, List.eq_replicate_iff]
  refine ⟨by simp, fun x hx => ?_⟩
  obtain ⟨i, hi, rfl⟩ := List.mem_map.1 hx
  exact e i (List.mem_range.1 hi)
end
end Go.Proofs.YtbghglkplbnnkaaGreatDoor
-- GcLaws
namespace Go.Proofs.YtbghglkplbnnkaaGreatDoor
open Go.RowKit Sec
open Go.Proofs.YtbghglkplbnnkaaGreatDoor.Bk

def ga1 : List Int := newW (20 : Nat) (6 : Nat) (freshC 20) 0 2
def ga2 : List Int := newW (20 : Nat) (6 : Nat) ga1 0 1
def ga3 : List Int := srW (20 : Nat) (6 : Nat) ga2 0 19
def ga4 : List Int := (alg (20 : Nat) (6 : Nat) ga3 [19]).2.2
theorem ga_at : (newE (20 : Nat) (6 : Nat) ga1 0 1 = 0 ∧ newA (20 : Nat) (6 : Nat) ga1 0 1 = 19) ∧ srE (20 : Nat) (6 : Nat) ga2 0 19 = 0 ∧ hGc ga3 = 0 := by decide +kernel
theorem ga_all : (alg (20 : Nat) (6 : Nat) ga3 [19]).1 = 0 ∧ (alg (20 : Nat) (6 : Nat) ga3 [19]).2.1 = [36] ∧ hOk (20 : Nat) (6 : Nat) ga4 = true ∧ hFr ga4 - (16 + hSp ga4 * ((20 : Nat) : Int)) = 2 ∧ hGc ga4 = 0 := by decide +kernel
set_option maxRecDepth 100000 in
set_option maxHeartbeats 4000000 in
theorem gcalive_is {w : World} (ht : TyOk w.heap.size w) : Calls Tryz.prog 9 #[] w fun e w' => e = .returned (.bool true) ∧ Below w.heap.size w w' := by
  obtain ⟨⟨p1, q1⟩, p2, p3⟩ := ga_at
  obtain ⟨p4, q4, p5, p6, p7⟩ := ga_all
  have HB : Hid (Calls Tryz.prog 31 #[.agg #[.int .i64 20, .int .i64 6]] w fun r w' => ∃ s p, r = .returned (.tuple #[.pointer (some ⟨p, 0, none⟩), .pointer (some ⟨s, 0, none⟩)]) ∧ St w.heap.size (fun b => b < w.heap.size) w' s 20 6 (freshC 20) ∧ Below w.heap.size w w') := Lib.hid (Begin_st ht 20 6 (by omega))
  have HN1 : Hid (∀ B G u s, St B G u s 20 6 (freshC 20) → Calls Tryz.prog 24 #[.pointer (some ⟨s, 0, none⟩), .int .i64 0, .int .i64 2] u fun e w' => (∃ a b, e = .returned (.tuple #[.int .i64 a, .int .i64 b])) ∧ St B G w' s 20 6 ga1 ∧ Below B u w' ∧ KeptG G u w') := Lib.hid (fun B G u s x => (anew_st x 0 2).mono fun e w' ⟨h1, h2⟩ => ⟨⟨_, _, h1⟩, h2⟩)
  have HN2 : Hid (∀ B G u s, St B G u s 20 6 ga1 → Calls Tryz.prog 24 #[.pointer (some ⟨s, 0, none⟩), .int .i64 0, .int .i64 1] u fun e w' => e = .returned (.tuple #[.int .i64 19, .int .i64 0]) ∧ St B G w' s 20 6 ga2 ∧ Below B u w' ∧ KeptG G u w') := Lib.hid (fun B G u s x => by
    have := anew_st x 0 1
    rwa [p1, q1] at this)
  have HSr : Hid (∀ B G u s, St B G u s 20 6 ga2 → Calls Tryz.prog 27 #[.pointer (some ⟨s, 0, none⟩), .int .i64 0, .int .i64 19] u fun e w' => e = .returned (.int .i64 0) ∧ St B G w' s 20 6 ga3 ∧ Below B u w' ∧ KeptG G u w') := Lib.hid (fun B G u s x => by
    have := fSetRoot_is x 0 19
    rwa [p2] at this)
  have HAl : Hid (∀ B G u s q, St B G u s 20 6 ga3 → Lent B G u q [19] → (q = none → 1 = 0) → Calls Tryz.prog 29 #[.pointer (some ⟨s, 0, none⟩), .slice q 1 1] u fun e w' => ∃ r, e = .returned (.tuple #[r, .int .i64 0]) ∧ St B G w' s 20 6 ga4 ∧ Below B u w' ∧ KeptG G u w' ∧ w'.ownsRow u.heap.size 3 1 r 1 (vals [36])) := Lib.hid (fun B G u s q x y hq => by
    have := gAll_off x q [19] 1 y hq (by rw [p3]; decide)
    rw [p4, q4] at this
    exact this.mono fun e w' ⟨r, h1, h2, h3⟩ => ⟨r, h1, h2.mono (fun _ g => .inl g), h3⟩)
  have HUs : Hid (∀ B G u s, St B G u s 20 6 ga4 → Calls Tryz.prog 18 #[.pointer (some ⟨s, 0, none⟩)] u fun e w' => e = .returned (.int .i64 2) ∧ Below u.heap.size u w') := Lib.hid (fun B G u s x => by
    have := spused_st x
    rwa [p5, if_pos rfl, p6] at this)
  have HOn : Hid (∀ B G u s, St B G u s 20 6 ga4 → Calls Tryz.prog 12 #[.pointer (some ⟨s, 0, none⟩)] u fun e w' => e = .returned (.bool false) ∧ Below u.heap.size u w') := Lib.hid (fun B G u s x => by
    have := gOn_is x
    rwa [p7, decide_eq_false (by decide)] at this)
  clear p1 q1 p2 p3 p4 q4 p5 p6 p7 ht
  generalize ga4 = V4 at *
  generalize ga3 = V3 at *
  generalize ga2 = V2 at *
  generalize ga1 = V1 at *
  generalize freshC 20 = V0 at *
  go_enter Tryz.func9, Tryz.ntmps9
  go_wp2_with (first
    | (go_at_call 31; refine HB.out.mono ?_; rintro e w1 ⟨s, p, rfl, h1, b1⟩; have H1 := Lib.hid (And.intro h1 b1); clear h1 b1)
    | (go_at_call 24; refine (HN1.out _ _ _ _ H1.out.1).mono ?_; rintro e w2 ⟨⟨a2, e2, rfl⟩, h2, b2, _⟩; have H2 := Lib.hid (And.intro h2 (H1.out.2.trans b2)); clear h2 b2; replace H1 := True.intro)
    | (go_at_call 24; refine (HN2.out _ _ _ _ H2.out.1).mono ?_; rintro e w3 ⟨rfl, h3, b3, _⟩; have H3 := Lib.hid (And.intro h3 (H2.out.2.trans b3)); clear h3 b3)
    | (go_at_call 27; refine (HSr.out _ _ _ _ H3.out.1).mono ?_; rintro e w4 ⟨rfl, h4, b4, _⟩; have H4 := Lib.hid (And.intro h4 (H3.out.2.trans b4)); clear h4 b4)
    | (go_at_call 29
       have y4 : Below w4.heap.size w4 (w4.alloc (.cells #[.int .i64 19] 3)) := (Below.refl _ _).alloc (Nat.le_refl _) _
       refine (HAl.out _ _ _ _ _ (H4.out.1.more y4) ⟨fun j u hu => ⟨_, rfl, by simp, World.news_of_block (heap_alloc_last _ _) j u hu⟩, fun x e => by obtain rfl := Option.some.inj e; exact .inr (.inr ⟨Nat.le_refl _, by simp⟩), by decide⟩ (fun q => by cases q)).mono ?_
       rintro e w5 ⟨r5, rfl, h5, b5, _, o5⟩
       obtain ⟨g5, c5, rfl, _, _, _⟩ := own_blk o5 (by decide)
       have d5 : w5.cell? ⟨g5, 0, none⟩ = some (.int .i64 36) := (owns_cell o5 (k := 0) rfl).1
       have H5 := Lib.hid (And.intro h5 (H4.out.2.trans ((y4.mono H4.out.1.le).trans b5)))
       clear h5 b5 o5 y4)
    | (go_at_call 18; refine (HUs.out _ _ _ _ H5.out.1).mono ?_; rintro e w6 ⟨rfl, b6⟩; have H6 := Lib.hid (And.intro (H5.out.1.below b6) (geo_next H5.out.2 b6)); clear b6)
    | (go_at_call 12; refine (HOn.out _ _ _ _ H6.out.1).mono ?_; rintro e w7 ⟨rfl, b7⟩; have H7 := Lib.hid (geo_next H6.out.2 b7); clear b7))
  go_ret
  exact ⟨rfl, H7.out⟩
end Go.Proofs.YtbghglkplbnnkaaGreatDoor
