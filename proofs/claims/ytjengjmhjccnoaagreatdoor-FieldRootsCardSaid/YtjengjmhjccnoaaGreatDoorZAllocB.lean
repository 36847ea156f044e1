/- AllocObjs, AllocLaws -/
import Derived.Test.YtjengjmhjccnoaaGreatDoorZAllocA
import Derived.Test.YtjengjmhjccnoaaGreatDoorZHeapC
import Derived.Test.YtjengjmhjccnoaaGreatDoorZObjsMath
import Derived.Test.YtjengjmhjccnoaaGreatDoorZShelf
import Derived.Test.YtjengjmhjccnoaaGreatDoorZStoreG2
set_option linter.unusedVariables false
set_option linter.unusedSimpArgs false
-- AllocObjs
/- Package alloc: Objects, Is, Shape, as the document's. -/
namespace Go.Proofs.YtjengjmhjccnoaaGreatDoor
open Go.RowKit Sec
open Go.Proofs.YtjengjmhjccnoaaGreatDoor.Bk

section
variable {w : World} {x : Option Addr} {gv : Int → Int} {h l : Int}
end
section
variable {B : Nat} {G : Nat → Prop} {w : World} {s H L : Nat} {W : List Int}
theorem kept6_grown {w u u1 u' : World} {h l a b c d : Int} (x : Kept6 w h l a b c d u) (y : Below u.heap.size u u1) {row : Option Nat} (hg : u1.grownBy u' row) (hr : ∀ k, row = some k → w.heap.size + 2 ≤ k) : Kept6 w h l a b c d u' := by
  obtain ⟨⟨x0, x1, x2, x3, x4, x5⟩, x6, x7⟩ := x
  have e : ∀ k o, k ≤ w.heap.size + 1 → u'.cell? ⟨k, o, none⟩ = u.cell? ⟨k, o, none⟩ := fun k o q => World.cell?_of_block (a := ⟨k, o, none⟩) ((hg.block k (by have := y.size; omega) (fun e => by have := hr k e.symm; omega)).trans (y.block k (by omega)))
  exact ⟨⟨(e _ _ (by omega)).trans x0, (e _ _ (by omega)).trans x1, (e _ _ (by omega)).trans x2, (e _ _ (by omega)).trans x3, (e _ _ (by omega)).trans x4, (e _ _ (by omega)).trans x5⟩, Nat.lt_of_lt_of_le x6 (Nat.le_trans y.size hg.size), (geo_next x7 y).grown hg (by have := x7.size; have := y.size; omega) (fun k q => by have := hr k q; omega)⟩
/-- How many slots, and words, an object has that lies there; 0: there is none. -/
def shAS (h l : Int) (W : List Int) (a : Int) : Int := if a ∈ (objs h l W).1 then prS (W.getD a.toNat 0) else 0
def shAW (h l : Int) (W : List Int) (a : Int) : Int := if a ∈ (objs h l W).1 then prW (W.getD a.toNat 0) else 0
end
set_option maxRecDepth 100000 in
set_option maxHeartbeats 2000000 in
theorem anew_nil (w : World) : Calls Tryz.prog 8 #[.pointer none, .int .i64 1, .int .i64 1] w fun e w' => e = .returned (.tuple #[.int .i64 0, .int .i64 1]) ∧ Below w.heap.size w w' := by
  have HHd := Lib.hid (fun u => oheader_is 1 1 u)
  have HSz := Lib.hid (fun u => osize_is 1 1 u)
  have HGet := Lib.hid (spget_nil w)
  have HQ := Lib.hid (fun u => geo_nil u)
  have HR := Lib.hid (fun u => spright_is 0 0 0 0 0 0 u)
  rw [fine_zero] at HR
  generalize hdI 1 1 = hd at *
  generalize szI 1 1 = sz at *
  generalize shOk 1 1 = sh at *
  go_enter Tryz.func8, Tryz.ntmps8
  go_wp2_with (first
    | (go_at_call 20; refine HGet.out.mono ?_; rintro e w1 ⟨rfl, b1⟩; have H1 := Lib.hid b1; have HK := Lib.hid (kept4_made w1 0 0 0 0); clear b1)
    | (go_at_call 21; refine (HHd.out _).mono ?_; rintro e w' ⟨rfl, hw⟩; obtain rfl := hw.symm)
    | (go_at_call 22; refine (HSz.out _).mono ?_; rintro e w' ⟨rfl, hw⟩; obtain rfl := hw.symm))
  go_region_held3 (fun u => (u.cell? ⟨w1.heap.size, 0, none⟩ = some (.int .i64 0) ∧ u.cell? ⟨w1.heap.size, 1, none⟩ = some (.int .i64 0) ∧ u.cell? ⟨w1.heap.size, 2, none⟩ = some (.int .i64 0) ∧ u.cell? ⟨w1.heap.size, 3, none⟩ = some (.int .i64 0)) ∧ w1.heap.size < u.heap.size ∧ Below w1.heap.size w1 u) (first
      | assumption
      | exact HK.out
      | exact kept4_keep HK.out (Below.refl _ _).drew
      | exact kept4_keep (by assumption) b4
      | exact kept4_keep (by assumption) b5) (first
    | (go_at_call 24; refine (HQ.out _).mono ?_; rintro e w4 ⟨rfl, b4⟩)
    | (go_at_call 23; refine (HR.out _).mono ?_; rintro e w5 ⟨rfl, b5⟩))
  rename_i hH
  have HP := Lib.hid hH.2.2
  clear hH
  go_wp2_with fail
  go_ret2
  exact ⟨rfl, geo_next H1.out HP.out⟩
end Go.Proofs.YtjengjmhjccnoaaGreatDoor
-- AllocLaws
/- The laws of stage 12: their helper alive; what they keep. -/
namespace Go.Proofs.YtjengjmhjccnoaaGreatDoor
open Go.RowKit Sec
open Go.Proofs.YtjengjmhjccnoaaGreatDoor.Bk

theorem al_one : Mk (20 : Nat) (6 : Nat) (freshC 20) 2 3 16 6 ∧ objs (20 : Nat) (6 : Nat) (newW (20 : Nat) (6 : Nat) (freshC 20) 2 3) = ([16], true) := by
  have hg : geOk (20 : Nat) (6 : Nat) = true := by decide
  obtain ⟨e0, e1, _, _⟩ := fresh_ctl 20
  have m : Mk (20 : Nat) (6 : Nat) (freshC 20) 2 3 16 6 := mk_of (by rw [freshC_len]; decide) (fresh_ok hg) (by decide) e1 (by decide) (by rw [e0]; decide)
  refine ⟨m, ?_⟩
  rw [m.objs (by rw [fresh_objs hg]), fresh_objs hg]
  rfl
theorem al_two : Mk (20 : Nat) (6 : Nat) (newW (20 : Nat) (6 : Nat) (freshC 20) 2 3) 0 1 22 2 ∧ objs (20 : Nat) (6 : Nat) (newW (20 : Nat) (6 : Nat) (newW (20 : Nat) (6 : Nat) (freshC 20) 2 3) 0 1) = ([16, 22], true) := by
  obtain ⟨m, o⟩ := al_one
  obtain ⟨e0, _, _, _⟩ := fresh_ctl 20
  obtain ⟨c0, c1, _, _⟩ := m.ctl
  have m2 : Mk (20 : Nat) (6 : Nat) (newW (20 : Nat) (6 : Nat) (freshC 20) 2 3) 0 1 22 2 := mk_of (by rw [new_len, freshC_len]; decide) m.ok' (by decide) (c1.trans (by decide)) (by decide) (by rw [c0, e0]; decide)
  refine ⟨m2, ?_⟩
  rw [m2.objs (by rw [o]), o]
  rfl
/-- What the laws keep: the geometry's box, the store; the blocks G lie beside it. -/
structure LwS (W : World) (h l : Int) (B : Nat) (G : Nat → Prop) (s H L : Nat) (V : List Int) (u : World) : Prop where
  g : GBox u W.heap.size h l
  b : Below W.heap.size W u
  s : St B G u s H L V
  lt : W.heap.size < B
  gg : ∀ k, k < B → G k
section
variable {W u u' : World} {h l : Int} {B s H L : Nat} {G G' : Nat → Prop} {V V' : List Int}
theorem LwS.below (x : LwS W h l B G s H L V u) (y : Below u.heap.size u u') : LwS W h l B G s H L V u' := ⟨x.g.below y, geo_next x.b y, x.s.below y, x.lt, x.gg⟩
theorem LwS.start {v : World} (g : GBox v W.heap.size h l) (b : Below W.heap.size W v) (h3 : St v.heap.size (fun k => k < v.heap.size) u s H L V) (b3 : Below v.heap.size v u) : LwS W h l v.heap.size (fun k => k < v.heap.size) s H L V u :=
  ⟨g.below b3, geo_next b b3, h3, g.lt, fun _ q => q⟩
theorem LwS.set (x : LwS W h l B G s H L V u) (h1 : St B G u' s H L V') (h2 : Below B u u') (h3 : KeptG G u u') : LwS W h l B G s H L V' u' :=
  have c := x.gg _ x.lt
  ⟨⟨Nat.lt_of_lt_of_le x.g.lt h2.size, (h3.cell ⟨_, 0, none⟩ c).trans x.g.c0, (h3.cell ⟨_, 1, none⟩ c).trans x.g.c1⟩, x.b.trans (h2.mono (Nat.le_of_lt x.lt)), h1, x.lt, x.gg⟩
/-- What a call made is kept beside the store from then on. -/
theorem LwS.more (x : LwS W h l B G s H L V u) (y : Below u.heap.size u u') : LwS W h l B (fun k => G k ∨ (u.heap.size ≤ k ∧ k < u'.heap.size)) s H L V u' :=
  ⟨x.g.below y, geo_next x.b y, x.s.more y, x.lt, fun k q => .inl (x.gg k q)⟩
/-- What is kept beside the store has turned, and there are news. -/
theorem LwS.turn (x : LwS W h l B G s H L V u) (b : Below B u u') (hb : ∀ k, k < u.heap.size → ¬ G k → u'.heap[k]? = u.heap[k]?) (hk : u'.heap[W.heap.size]? = u.heap[W.heap.size]?) : LwS W h l B (fun k => G k ∨ (u.heap.size ≤ k ∧ k < u'.heap.size)) s H L V u' :=
  ⟨⟨Nat.lt_of_lt_of_le x.g.lt b.size, (World.cell?_of_block (a := ⟨_, 0, none⟩) hk).trans x.g.c0, (World.cell?_of_block (a := ⟨_, 1, none⟩) hk).trans x.g.c1⟩, x.b.trans (b.mono (Nat.le_of_lt x.lt)), x.s.turn b hb, x.lt, fun k q => .inl (x.gg k q)⟩
/-- A list of the law's own, beside the store. -/
structure LwA (W : World) (h l : Int) (B : Nat) (s H L : Nat) (V : List Int) (v : Value) (T : List Int) (u : World) : Prop where
  x : ∃ G, LwS W h l B G s H L V u ∧ (∀ g, v.ownBlock = some g → G g) ∧ ∀ k, G k → k < u.heap.size
  o : u.ownsRow B 3 1 v T.length (vals T)
variable {v : Value} {T : List Int}
theorem LwA.below (x : LwA W h l B s H L V v T u) (y : Below u.heap.size u u') : LwA W h l B s H L V v T u' := by
  obtain ⟨⟨G, x1, x2, x3⟩, o⟩ := x
  exact ⟨⟨G, x1.below y, x2, fun k q => Nat.lt_of_lt_of_le (x3 k q) y.size⟩, own_below o y⟩
/-- Behind a call that turns the store. -/
theorem LwA.new (x : LwA W h l B s H L V v T u) {f : FuncId} {args : Array Value} {r : Ending} (y : ∀ G, St B G u s H L V → Calls Tryz.prog f args u fun e w' => e = r ∧ St B G w' s H L V' ∧ Below B u w' ∧ KeptG G u w') :
    Calls Tryz.prog f args u fun e w' => e = r ∧ LwA W h l B s H L V' v T w' := by
  obtain ⟨⟨G, x1, x2, x3⟩, o⟩ := x
  exact (y G x1.s).mono fun e w' ⟨y0, y1, y2, y3⟩ => ⟨y0, ⟨G, x1.set y1 y2 y3, x2, fun k q => Nat.lt_of_lt_of_le (x3 k q) y2.size⟩, hb_same o fun g hg => y3 g (x2 g hg)⟩
theorem LwA.st (x : LwA W h l B s H L V v T u) : ∃ G, St B G u s H L V := by
  obtain ⟨⟨G, x1, _⟩, _⟩ := x
  exact ⟨G, x1.s⟩
theorem LwA.b (x : LwA W h l B s H L V v T u) : Below W.heap.size W u := by
  obtain ⟨⟨G, x1, _⟩, _⟩ := x
  exact x1.b
theorem LwA.start (x : LwS W h l B (fun k => k < B) s H L V u) : LwA W h l B s H L V (.slice none 0 0) [] u :=
  ⟨⟨_, x, fun g q => (by cases q), fun k q => Nat.lt_of_lt_of_le q x.s.le⟩, World.ownsRow_nil _ _ _ _⟩
/-- One number more. -/
theorem LwA.push (x : LwA W h l B s H L V v T u) {u1 : World} (y : Below u.heap.size u u1) {g c n : Nat} {z : Int} (hn : n = T.length + 1)
    (ho : u'.ownsRow B 3 1 (.slice (some ⟨g, 0, none⟩) n c) n (vals T ++ [.int .i64 z])) (hg : u1.grownBy u' v.ownBlock) (hat : v.ownBlock = some g ∨ g = u1.heap.size) (hlt : g < u'.heap.size) : LwA W h l B s H L V (.slice (some ⟨g, 0, none⟩) n c) (T ++ [z]) u' := by
  obtain ⟨⟨G, x1, x2, x3⟩, o⟩ := x
  subst hn
  have hB := x1.s.le
  have b1 : Below B u u' := (y.mono hB).grown hg (Nat.le_trans hB y.size) (fun k q => (o.lt k q).1)
  have hne : v.ownBlock ≠ some W.heap.size := fun e => by
    have := (o.lt _ e).1
    have := x1.lt
    omega
  have hW : W.heap.size < u.heap.size := x1.g.lt
  have same : ∀ k, k < u.heap.size → v.ownBlock ≠ some k → u'.heap[k]? = u.heap[k]? := fun k q r =>
    (hg.block k (Nat.lt_of_lt_of_le q y.size) (fun e => r e.symm)).trans (y.block k q)
  refine ⟨⟨_, x1.turn b1 (fun k q r => same k q (fun e => r (x2 k e))) (same _ hW hne), fun g' e => ?_, fun k q => ?_⟩, ?_⟩
  · obtain rfl : g = g' := by simpa [Value.ownBlock] using e
    rcases hat with q | q
    · exact .inl (x2 g q)
    · exact .inr ⟨by rw [q]; exact y.size, hlt⟩
  · rcases q with q | q
    · exact Nat.lt_of_lt_of_le (x3 k q) b1.size
    · exact q.2
  · rw [List.length_append]
    simpa [vals] using ho
end
end Go.Proofs.YtjengjmhjccnoaaGreatDoor
