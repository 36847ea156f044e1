/- SpaceTells: what its walk keeps; the inputs that it passes over. -/
import Derived.Test.YtbgdchcnmcjegaaGreatDoorZSpaceLaws
import Derived.Test.YtbgdchcnmcjegaaGreatDoorZRaw
set_option linter.unusedVariables false
set_option linter.unusedSimpArgs false
namespace Go.Proofs.YtbgdchcnmcjegaaGreatDoor
open Go.RowKit Sec
open Go.Proofs.YtbgdchcnmcjegaaGreatDoor.Bk

/-- What SpaceTells keeps: the two boxes, the store s (its cells V), the document's heap at p (its cells U). -/
structure TlS (W : World) (h l a b c d : Int) (B B' s H L : Nat) (V U : List Int) (p g cc : Nat) (u : World) : Prop where
  k : Kept6 W h l a b c d u
  s : St B (fun k => k = W.heap.size ∨ k = W.heap.size + 1 ∨ k = p ∨ k = g) u s H L V
  d : HIs B' u p H L U g cc
  lt : W.heap.size + 1 < B
  le : B ≤ B'
section
variable {W u u' v : World} {h l a b c d : Int} {B B' s H L p g cc : Nat} {V U V' U' : List Int}
theorem TlS.below (x : TlS W h l a b c d B B' s H L V U p g cc u) (y : Below u.heap.size u u') : TlS W h l a b c d B B' s H L V U p g cc u' :=
  ⟨kept6_keep x.k y, x.s.below y, x.d.below y, x.lt, x.le⟩
theorem TlS.next (x : TlS W h l a b c d B B' s H L V U p g cc u) (y : Below v.heap.size v u') (e : v = u ∨ v = u.drew) : TlS W h l a b c d B B' s H L V U p g cc u' := by
  rcases e with rfl | rfl
  · exact x.below y
  · exact (x.below (Below.refl _ _).drew).below y
theorem TlS.start {w2 w3 w4 : World} (x : Kept6 W h l a b c d w2) (b1 : Below w2.heap.size w2 w3) (y : St w2.heap.size (fun k => k < w2.heap.size) w3 s H L V) (b2 : Below w3.heap.size w3 w4) (z : HIs w3.heap.size w4 p H L V g cc) : TlS W h l a b c d w2.heap.size w3.heap.size s H L V V p g cc w4 := by
  refine ⟨kept6_keep x (geo_next b1 b2), (y.more b2).mono fun k q => ?_, z, x.2.1, b1.size⟩
  have := x.2.1
  rcases q with rfl | rfl | rfl | rfl
  · exact .inl (show W.heap.size < w2.heap.size by omega)
  · exact .inl (show W.heap.size + 1 < w2.heap.size by omega)
  · exact .inr ⟨z.hp, z.lt⟩
  · exact .inr z.glt
theorem TlS.set (x : TlS W h l a b c d B B' s H L V U p g cc u) (h1 : St B (fun k => k = W.heap.size ∨ k = W.heap.size + 1 ∨ k = p ∨ k = g) u' s H L V') (h2 : Below B u u') (h3 : KeptG (fun k => k = W.heap.size ∨ k = W.heap.size + 1 ∨ k = p ∨ k = g) u u') : TlS W h l a b c d B B' s H L V' U p g cc u' := by
  obtain ⟨⟨x0, x1, x2, x3, x4, x5⟩, x6, x7⟩ := x.k
  have e : ∀ k o, k = W.heap.size ∨ k = W.heap.size + 1 ∨ k = p ∨ k = g → u'.cell? ⟨k, o, none⟩ = u.cell? ⟨k, o, none⟩ := fun k o q => h3.cell _ q
  refine ⟨⟨⟨(e _ _ (.inl rfl)).trans x0, (e _ _ (.inl rfl)).trans x1, (e _ _ (.inr (.inl rfl))).trans x2, (e _ _ (.inr (.inl rfl))).trans x3, (e _ _ (.inr (.inl rfl))).trans x4, (e _ _ (.inr (.inl rfl))).trans x5⟩, Nat.lt_of_lt_of_le x6 h2.size, x7.trans (h2.mono (Nat.le_of_lt (Nat.lt_of_succ_lt x.lt)))⟩, h1, x.d.of_blocks fun i q => h3 i (.inr (.inr q)), x.lt, x.le⟩
theorem TlS.go (x : TlS W h l a b c d B B' s H L V U p g cc u) (y : HGo B' g u u') (z : HIs B' u' p H L U' g cc) : TlS W h l a b c d B B' s H L V U' p g cc u' := by
  obtain ⟨⟨x0, x1, x2, x3, x4, x5⟩, x6, x7⟩ := x.k
  have hg := x.d.glt.1
  have hlt := x.lt
  have hle := x.le
  have e : ∀ k o, k < u.heap.size → k ≠ g → u'.cell? ⟨k, o, none⟩ = u.cell? ⟨k, o, none⟩ := fun k o q r => World.cell?_of_block (y.k k q r)
  refine ⟨⟨⟨(e _ _ (by omega) (by omega)).trans x0, (e _ _ (by omega) (by omega)).trans x1, (e _ _ x6 (by omega)).trans x2, (e _ _ x6 (by omega)).trans x3, (e _ _ x6 (by omega)).trans x4, (e _ _ x6 (by omega)).trans x5⟩, Nat.lt_of_lt_of_le x6 y.b.size, x7.trans (y.b.mono (by omega))⟩,
    x.s.own (y.b.mono hle) (fun k q r => y.k k r (fun e => q (.inr (.inr (.inr e))))), z, x.lt, x.le⟩
theorem tells_at (x : TlS W h l a b c d B B' s H L V U p g cc u) : ∃ v0 v1 v2 v3 : Value, u.cell? ⟨p, 2, none⟩ = some (.slice (some ⟨g, 0, none⟩) U.length cc) ∧ u.cell? ⟨g, 0, none⟩ = some v0 ∧ u.frozen? ⟨g, 0, none⟩ = false ∧ u.cell? ⟨g, 1, none⟩ = some v1 ∧ u.frozen? ⟨g, 1, none⟩ = false ∧
    u.cell? ⟨g, 2, none⟩ = some v2 ∧ u.frozen? ⟨g, 2, none⟩ = false ∧ u.cell? ⟨g, 3, none⟩ = some v3 ∧ u.frozen? ⟨g, 3, none⟩ = false := by
  have hge := x.d.ge
  have f : ∀ i, i < 4 → _ := fun i hi => x.d.at (i := i) (by omega)
  exact ⟨_, _, _, _, x.d.cs.2.2, (f 0 (by decide)).1, (f 0 (by decide)).2, (f 1 (by decide)).1, (f 1 (by decide)).2, (f 2 (by decide)).1, (f 2 (by decide)).2, (f 3 (by decide)).1, (f 3 (by decide)).2⟩
theorem tells_ne (x : TlS W h l a b c d B B' s H L V U p g cc u) : p ≠ g ∧ W.heap.size + 1 ≠ g := by
  have := x.d.glt.1
  have := x.lt
  have := x.le
  exact ⟨fun e => x.d.ne e.symm, by omega⟩
/-- The cells that the law's stores into the heap's row leave alone. -/
def KS (k p g cc n : Nat) (a b c d : Int) (u : World) : Prop :=
  (u.cell? ⟨p, 2, none⟩ = some (.slice (some ⟨g, 0, none⟩) n cc) ∧ u.cell? ⟨k + 1, 0, none⟩ = some (.int .i64 a) ∧ u.cell? ⟨k + 1, 1, none⟩ = some (.int .i64 b) ∧ u.cell? ⟨k + 1, 2, none⟩ = some (.int .i64 c) ∧ u.cell? ⟨k + 1, 3, none⟩ = some (.int .i64 d)) ∧ (p ≠ g ∧ k + 1 ≠ g)
theorem KS.set {k p g cc n : Nat} {a b c d : Int} {u : World} (x : KS k p g cc n a b c d u) (i : Nat) (v : Value) : KS k p g cc n a b c d (u.setCell ⟨g, i, none⟩ v) := by
  obtain ⟨⟨x0, x1, x2, x3, x4⟩, x5, x6⟩ := x
  have e : ∀ q o, q ≠ g → (u.setCell ⟨g, i, none⟩ v).cell? ⟨q, o, none⟩ = u.cell? ⟨q, o, none⟩ := fun q o r => World.cell?_of_block (heap_setCell_other _ _ _ _ r)
  exact ⟨⟨(e _ _ x5).trans x0, (e _ _ x6).trans x1, (e _ _ x6).trans x2, (e _ _ x6).trans x3, (e _ _ x6).trans x4⟩, x5, x6⟩
theorem KS.drew {k p g cc n : Nat} {a b c d : Int} {u : World} (x : KS k p g cc n a b c d u) : KS k p g cc n a b c d u.drew := x
theorem tells_put (e : V' = (((U.set 0 a).set 1 b).set 2 c).set 3 d) (x : TlS W h l a b c d B B' s H L V U p g cc u) :
    TlS W h l a b c d B B' s H L V V' p g cc ((((u.setCell ⟨g, 0, none⟩ (.int .i64 a)).setCell ⟨g, 1, none⟩ (.int .i64 b)).setCell ⟨g, 2, none⟩ (.int .i64 c)).setCell ⟨g, 3, none⟩ (.int .i64 d)).drew := by
  subst e
  have hg := x.d.glt.1
  refine (x.go ((((HGo.set hg _ _).trans (HGo.set hg _ _)).trans (HGo.set hg _ _)).trans (HGo.set hg _ _)) ((((x.d.set 0 _).set 1 _).set 2 _).set 3 _)).below (Below.refl _ _).drew
end
section
variable {W : World}
set_option maxRecDepth 100000 in
set_option maxHeartbeats 4000000 in
theorem Tells_no (ht : TyOk W.heap.size W) (h l a b c d : Int) (q : Option Addr) (n m : Nat) (hn : (n : Int) ≤ 9223372036854775807) (no : ¬ (geOk h l = true ∧ h ≤ 60 ∧ n ≤ 30)) : Calls Tryz.prog 3 #[.agg #[.int .i64 h, .int .i64 l], .slice q n m, .agg #[.int .i64 a, .int .i64 b, .int .i64 c, .int .i64 d]] W fun e w' => e = .returned (.bool true) ∧ Below W.heap.size W w' := by
  have HT := Lib.hid ht
  have HR := Lib.hid (fun u => rgeo_is h l u)
  have cases : geOk h l = false ∨ (geOk h l = true ∧ (60 < h ∨ (h ≤ 60 ∧ (30 : Int) < (n : Int)))) := by
    cases q : geOk h l
    · exact .inl rfl
    · have no2 : ¬ (h ≤ 60 ∧ n ≤ 30) := fun x => no ⟨q, x⟩
      exact .inr ⟨rfl, by omega⟩
  clear no ht
  generalize geOk h l = ok at *
  have HK := Lib.hid (kept6_made W h l a b c d)
  rcases cases with rfl | ⟨rfl, c1 | ⟨c1, c2⟩⟩
  all_goals
    go_enter Tryz.func3, Tryz.ntmps3
    go_wp2_with (first
      | (go_at_call 5; refine (HR.out _).mono ?_; rintro e' w1 ⟨rfl, b1⟩; have H1 := Lib.hid (kept6_keep HK.out b1); obtain ⟨⟨c0, _, _, _, _, _⟩, _, _⟩ := H1.out; clear b1)
      | (go_at_call 6; refine (spalive_is ((HT.out.below H1.out.2.2).more H1.out.2.2.size)).mono ?_; rintro e' w2 ⟨rfl, b2⟩; have H2 := Lib.hid (geo_next H1.out.2.2 b2); clear b2))
    go_ret
    exact ⟨rfl, H2.out⟩
end
end Go.Proofs.YtbgdchcnmcjegaaGreatDoor
