import Derived.Test.YtbghglkplbnnkaaGreatDoorYField
import Derived.Test.YtbghglkplbnnkaaGreatDoorYAllocB
import Derived.Test.YtbghglkplbnnkaaGreatDoorYGcG
import Derived.Test.YtbghglkplbnnkaaGreatDoorYHeapE
import Derived.Test.YtbghglkplbnnkaaGreatDoorYHeapFrom
import Derived.Test.YtbghglkplbnnkaaGreatDoorYGraphA
set_option linter.unusedVariables false
set_option linter.unusedSimpArgs false
-- MadeSt
namespace Go.Proofs.YtbghglkplbnnkaaGreatDoor
open Go.RowKit Sec
open Go.Proofs.YtbghglkplbnnkaaGreatDoor.Bk

def Z0 : Int → Int := fun _ => 0
def namI (T : List Int) (n : Int) : Int := if n < 1 ∨ (T.length : Int) < n then 0 else T.getD (n - 1).toNat 0
theorem namI_in (T : List Int) (n : Int) : namI T n = 0 ∨ namI T n ∈ T := by
  by_cases c : n < 1 ∨ (T.length : Int) < n
  · exact .inl (if_pos c)
  · rw [namI, if_neg c]
    refine .inr ?_
    rw [List.getD_eq_getElem?_getD, List.getElem?_eq_getElem (show (n - 1).toNat < T.length by omega)]
    exact List.getElem_mem _
structure MdS (W : World) (G : GArg) (gb B s H L : Nat) (v : Value) (Tl T : List Int) (u : World) : Prop where
  x : ∃ V K, (Below W.heap.size W u ∧ St B K u s H L V ∧ W.heap.size ≤ B) ∧ ((∀ g, v.ownBlock = some g → K g) ∧ ∀ k, k < B → K k) ∧ Fin H L V T Z0
  o : u.ownsRow B 3 1 v Tl.length (vals Tl)
  gl : gb < B
  bx : ∃ W1 : World, W1.heap.size = B ∧ Below B W1 u ∧ Below W.heap.size W W1 ∧ (W1.cell? ⟨gb, 0, none⟩ = some G.r.val ∧ W1.cell? ⟨gb, 1, none⟩ = some (.slice G.a G.n.length G.c)) ∧ Two2 W1 (gb + 1) (.slice none 0 0) (.slice none 0 0)
section
variable {W u u' : World} {G : GArg} {gb B s H L : Nat} {v : Value} {Tl T : List Int}
theorem MdS.start {w : World} (b : Below W.heap.size W w) (h : St w.heap.size (fun k => k < w.heap.size) u s H L (freshC H)) (b3 : Below w.heap.size w u)
    (g0 : w.cell? ⟨gb, 0, none⟩ = some G.r.val) (g1 : w.cell? ⟨gb, 1, none⟩ = some (.slice G.a G.n.length G.c)) (g2 : Two2 w (gb + 1) (.slice none 0 0) (.slice none 0 0)) : MdS W G gb w.heap.size s H L (.slice none 0 0) [] [] u :=
  ⟨⟨_, _, ⟨geo_next b b3, h, b.size⟩, ⟨fun g q => (by cases q), fun k q => q⟩, (Fin.fresh h.ok Z0).1⟩, World.ownsRow_nil _ _ _ _, cell_in g0, w, rfl, b3, b, ⟨g0, g1⟩, g2⟩
theorem MdS.le (x : MdS W G gb B s H L v Tl T u) : B ≤ u.heap.size := by
  obtain ⟨⟨V, K, ⟨_, x1, _⟩, _⟩, _⟩ := x
  exact x1.le
theorem MdS.below (x : MdS W G gb B s H L v Tl T u) (y : Below u.heap.size u u') : MdS W G gb B s H L v Tl T u' := by
  have hle := x.le
  obtain ⟨⟨V, K, ⟨x1, x2, x3⟩, x4, f⟩, o, gl, W1, e, z1, z2⟩ := x
  exact ⟨⟨V, K, ⟨geo_next x1 y, x2.below y, x3⟩, x4, f⟩, own_below o y, gl, W1, e, z1.trans (y.mono hle), z2⟩
theorem MdS.call (x : MdS W G gb B s H L v Tl T u) : ∃ V, Fin H L V T Z0 ∧ ∀ {u1 : World} (_ : Below u.heap.size u u1) {V' T' : List Int} (_ : Fin H L V' T' Z0) {fn : FuncId} {args : Array Value} {r : Ending}
    (_ : ∀ K, St B K u1 s H L V → Calls Tryz.prog fn args u1 fun e w' => e = r ∧ St B K w' s H L V' ∧ Below B u1 w' ∧ KeptG K u1 w'), Calls Tryz.prog fn args u1 fun e w' => e = r ∧ MdS W G gb B s H L v Tl T' w' := by
  obtain ⟨⟨V, _, _, _, f⟩, _⟩ := id x
  have x' := x
  obtain ⟨⟨V, K, ⟨x1, x2, x3⟩, ⟨x4, x5⟩, f⟩, o, gl, W1, e, z1, z2⟩ := x'
  refine ⟨V, f, fun {u1} b {V' T'} f' {fn args r} y => ?_⟩
  refine (y K (x2.below b)).mono fun e' w' ⟨q0, q1, q2, q3⟩ => ⟨q0, ⟨V', K, ⟨(geo_next x1 b).trans (q2.mono x3), q1, x3⟩, ⟨x4, x5⟩, f'⟩, hb_same (own_below o b) fun g hg => q3 g (x4 g hg), gl, W1, e, (z1.trans (b.mono x2.le)).trans q2, z2⟩
theorem MdS.new (x : MdS W G gb B s H L v Tl T u) (a b : Int) :
    (∃ z, ∀ u1, Below u.heap.size u u1 → Calls Tryz.prog 24 #[.pointer (some ⟨s, 0, none⟩), .int .i64 a, .int .i64 b] u1 fun e w' => e = .returned (.tuple #[.int .i64 z, .int .i64 0]) ∧ MdS W G gb B s H L v Tl (T ++ [z]) w') ∨
    (∃ z E, E ≠ 0 ∧ ∀ u1, Below u.heap.size u u1 → Calls Tryz.prog 24 #[.pointer (some ⟨s, 0, none⟩), .int .i64 a, .int .i64 b] u1 fun e w' => e = .returned (.tuple #[.int .i64 z, .int .i64 E]) ∧ MdS W G gb B s H L v Tl T w') := by
  obtain ⟨V, f, c⟩ := x.call
  rcases f.make a b with ⟨e0, f2⟩ | ⟨e1, same⟩
  · refine .inl ⟨newA H L V a b, fun u1 y => c y f2 fun K h => ?_⟩
    have := anew_st h a b
    rwa [e0] at this
  · refine .inr ⟨newA H L V a b, newE H L V a b, e1, fun u1 y => c y f fun K h => ?_⟩
    have := anew_st h a b
    rwa [same] at this
theorem MdS.word (x : MdS W G gb B s H L v Tl T u) {t : Int} (ht : t ∈ T) (k z : Int) :
    Calls Tryz.prog 26 #[.pointer (some ⟨s, 0, none⟩), .int .i64 t, .int .i64 k, .int .i64 z] u fun e w' => (∃ E, e = .returned (.int .i64 E)) ∧ MdS W G gb B s H L v Tl T w' := by
  obtain ⟨V, f, c⟩ := x.call
  exact (c (Below.refl _ _) (f.sword (i := k) (v := z) ht) fun K h => fSetWord_is h t k z).mono fun e w' ⟨h1, h2⟩ => ⟨⟨_, h1⟩, h2⟩
theorem MdS.slot (x : MdS W G gb B s H L v Tl T u) {t z : Int} (ht : t ∈ T) (hz : z = 0 ∨ z ∈ T) (k : Int) :
    Calls Tryz.prog 25 #[.pointer (some ⟨s, 0, none⟩), .int .i64 t, .int .i64 k, .int .i64 z] u fun e w' => (∃ E, e = .returned (.int .i64 E)) ∧ MdS W G gb B s H L v Tl T w' := by
  obtain ⟨V, f, c⟩ := x.call
  exact (c (Below.refl _ _) (f.put (i := k) ht hz) fun K h => fPut_is h t k z).mono fun e w' ⟨h1, h2⟩ => ⟨⟨_, h1⟩, h2⟩
theorem MdS.root (x : MdS W G gb B s H L v Tl T u) {z : Int} (hz : z = 0 ∨ z ∈ T) (k : Int) :
    Calls Tryz.prog 27 #[.pointer (some ⟨s, 0, none⟩), .int .i64 k, .int .i64 z] u fun e w' => (∃ E, e = .returned (.int .i64 E)) ∧ MdS W G gb B s H L v Tl T w' := by
  obtain ⟨V, f, c⟩ := x.call
  exact (c (Below.refl _ _) (f.sroot (i := k) hz) fun K h => fSetRoot_is h k z).mono fun e w' ⟨h1, h2⟩ => ⟨⟨_, h1⟩, h2⟩
theorem MdS.push (x : MdS W G gb B s H L v Tl T u) {u1 : World} (y : Below u.heap.size u u1) {g c n : Nat} {z : Int} (hn : n = Tl.length + 1)
    (ho : u'.ownsRow B 3 1 (.slice (some ⟨g, 0, none⟩) n c) n (vals Tl ++ [.int .i64 z])) (hg : u1.grownBy u' v.ownBlock) (hat : v.ownBlock = some g ∨ g = u1.heap.size) (hlt : g < u'.heap.size) : MdS W G gb B s H L (.slice (some ⟨g, 0, none⟩) n c) (Tl ++ [z]) T u' := by
  have hB := x.le
  obtain ⟨⟨V, K, ⟨x1, x2, x3⟩, ⟨x4, x5⟩, f⟩, o, gl, W1, e, z1, z2⟩ := x
  subst hn
  have b1 : Below B u u' := (y.mono hB).grown hg (Nat.le_trans hB y.size) (fun k q => (o.lt k q).1)
  have same : ∀ k, k < u.heap.size → v.ownBlock ≠ some k → u'.heap[k]? = u.heap[k]? := fun k q r =>
    (hg.block k (Nat.lt_of_lt_of_le q y.size) (fun e => r e.symm)).trans (y.block k q)
  refine ⟨⟨V, _, ⟨x1.trans (b1.mono x3), x2.turn b1 (fun k q r => same k q (fun e => r (x4 k e))), x3⟩, ⟨fun g' e => ?_, fun k q => .inl (x5 k q)⟩, f⟩, ?_, gl, W1, e, z1.trans b1, z2⟩
  · obtain rfl : g = g' := by simpa [Value.ownBlock] using e
    rcases hat with q | q
    · exact .inl (x4 g q)
    · exact .inr ⟨by rw [q]; exact y.size, hlt⟩
  · rw [List.length_append]
    simpa [vals] using ho
theorem MdS.box (x : MdS W G gb B s H L v Tl T u) : u.cell? ⟨gb, 0, none⟩ = some G.r.val ∧ u.cell? ⟨gb, 1, none⟩ = some (.slice G.a G.n.length G.c) := by
  obtain ⟨_, _, x3, W1, e, x4, _, ⟨g0, g1⟩, _⟩ := x
  exact ⟨(x4.cell (p := ⟨gb, 0, none⟩) x3).trans g0, (x4.cell (p := ⟨gb, 1, none⟩) x3).trans g1⟩
theorem MdS.res (x : MdS W G gb B s H L v Tl T u) : Two2 u (gb + 1) (.slice none 0 0) (.slice none 0 0) := by
  obtain ⟨_, _, x3, W1, e, x4, _, _, g2⟩ := x
  exact g2.below (e ▸ x4)
theorem MdS.bel (x : MdS W G gb B s H L v Tl T u) : Below W.heap.size W u := by
  obtain ⟨⟨V, K, ⟨x1, _⟩, _⟩, _⟩ := x
  exact x1
theorem MdS.lies (x : MdS W G gb B s H L v Tl T u) : ∃ a c, v = .slice a Tl.length c ∧ LiesAt u a (vals Tl) := by
  obtain ⟨a, c, e, h, _⟩ := own_form x.o
  exact ⟨a, c, e, h⟩
end
structure LgS (W : World) (B s H L : Nat) (V : List Int) (Gw : GArg) (u : World) : Prop where
  x : ∃ K, (Below W.heap.size W u ∧ St B K u s H L V ∧ W.heap.size ≤ B) ∧ Gw.In (fun k => K k ∧ W.heap.size ≤ k) ∧ ∀ k, k < W.heap.size → K k
  a : Gw.At u
theorem GArg.In.mono {F F' : Nat → Prop} {x : GArg} (h : x.In F) (m : ∀ k, F k → F' k) : x.In F' :=
  ⟨fun a e => m _ (h.1 a e), fun a e => m _ (h.2.1 a e), fun z hz => ⟨fun a e => m _ ((h.2.2 z hz).1 a e), fun a e => m _ ((h.2.2 z hz).2 a e)⟩⟩
theorem GArg.At.blocks {u u' : World} {x : GArg} {F : Nat → Prop} (h : x.At u) (i : x.In F) (hs : u.heap.size ≤ u'.heap.size) (hb : ∀ k, F k → u'.heap[k]? = u.heap[k]?) : x.At u' := by
  obtain ⟨h1, h2, h3, h4⟩ := h
  obtain ⟨i1, i2, i3⟩ := i
  exact ⟨h1.blocks i1 hs hb, h2.of_blocks hs (fun a e => hb _ (i2 a e)), fun z hz => ⟨(h3 z hz).1.blocks (i3 z hz).1 hs hb, (h3 z hz).2.blocks (i3 z hz).2 hs hb⟩, h4⟩
theorem GArg.At.of_below {W u : World} {x : GArg} (h : x.At W) (y : Below W.heap.size W u) : x.At u := h.below y
section
variable {W u u' : World} {B s H L : Nat} {V V' : List Int} {Gw : GArg}
theorem LgS.below (x : LgS W B s H L V Gw u) (y : Below u.heap.size u u') : LgS W B s H L V Gw u' := by
  obtain ⟨⟨K, ⟨x1, x2, x3⟩, x4⟩, a⟩ := x
  exact ⟨⟨K, ⟨geo_next x1 y, x2.below y, x3⟩, x4⟩, a.below y⟩
end
theorem MdS.told {W u : World} {G : GArg} {gb B s H L : Nat} {v : Value} {Tl T : List Int} (x : MdS W G gb B s H L v Tl T u) (ht : TyOk W.heap.size W) (hgb : W.heap.size ≤ gb + 1) : ∃ V K, Fin H L V T Z0 ∧ St B K u s H L V ∧
    ∀ {u1 : World} {Gw : GArg} (_ : Below u.heap.size u u1) (_ : Gw.At u1) (_ : Gw.In (fun k => u.heap.size ≤ k ∧ k < u1.heap.size)) (t : TypeId) (v0 v1 v2 v3 : Value), LgS W W.heap.size s H L V Gw (((u1.alloc (.cells #[v0, v1] t)).setCell ⟨gb + 1, 0, none⟩ v2).setCell ⟨gb + 1, 1, none⟩ v3) := by
  have hr := x.res.lt
  obtain ⟨⟨V, K, ⟨x1, x2, x3⟩, ⟨x4, x5⟩, f⟩, o, gl, W1, e, z1, z2⟩ := x
  have hgB : gb + 1 < B := by
    have := z2.2.2.lt
    omega
  refine ⟨V, K, f, x2, fun {u1 Gw} b hA hI t v0 v1 v2 v3 => ?_⟩
  have b1 := geo_next x1 b
  have y : Below u1.heap.size u1 (u1.alloc (.cells #[v0, v1] t)) := (Below.refl _ _).alloc (Nat.le_refl _) _
  have s1 := (x2.more b).below y
  have b2 := geo_next b1 y
  have s2 := s1.base x3 (ht.below b2)
  have bs := b.size
  have ys := y.size
  have hA2 := hA.below y
  generalize u1.alloc (.cells #[v0, v1] t) = u2 at *
  have so : ∀ k, k ≠ gb + 1 → ((u2.setCell ⟨gb + 1, 0, none⟩ v2).setCell ⟨gb + 1, 1, none⟩ v3).heap[k]? = u2.heap[k]? := fun k h => (heap_setCell_other _ ⟨gb + 1, 1, none⟩ _ _ h).trans (heap_setCell_other _ ⟨gb + 1, 0, none⟩ _ _ h)
  have bb : Below W.heap.size u2 ((u2.setCell ⟨gb + 1, 0, none⟩ v2).setCell ⟨gb + 1, 1, none⟩ v3) := ((Below.refl _ _).setCell (p := ⟨gb + 1, 0, none⟩) hgb _).setCell (p := ⟨gb + 1, 1, none⟩) hgb _
  refine ⟨⟨_, ⟨b2.trans bb, s2.own bb (fun k hk _ => so k (fun e => hk (.inl (x5 k (by omega))))), Nat.le_refl _⟩, hI.mono (fun k q => ⟨.inr q, Nat.le_trans x1.size q.1⟩), fun k q => .inl (x5 k (Nat.lt_of_lt_of_le q x3))⟩, hA2.blocks hI (by simp) (fun k hk => so k (by omega))⟩
theorem heap_reads {w : World} {B : Nat} {K : Nat → Prop} {s H L : Nat} {V T O : List Int} {Z : Int → Int} (h : St B K w s H L V) (g : Gi H L V T O Z) :
    Calls Tryz.prog 14 #[.pointer (some ⟨s, 0, none⟩)] w fun r w' => ∃ b x c, r = .returned (.pointer (some ⟨b, 0, none⟩)) ∧ Below w.heap.size w w' ∧ HIs w.heap.size w' b H L V x c ∧
      (∀ u, Below w'.heap.size w' u → Calls Tryz.prog 16 #[.pointer (some ⟨b, 0, none⟩)] u fun e w2 => e = .returned (.slice (some ⟨x, 8, none⟩) 8 (c - 8)) ∧ w2 = u) ∧
      (∀ u, Below w'.heap.size w' u → Calls Tryz.prog 15 #[.pointer (some ⟨b, 0, none⟩), .slice (some ⟨x, 8, none⟩) 8 (c - 8)] u fun e w2 => ∃ G : GArg, e = .returned (.tuple #[G.val, .bool true]) ∧ (G.At w2 ∧ G.In (fun k => u.heap.size ≤ k ∧ k < w2.heap.size)) ∧ gr H L V = some (G.r.l, G.n.map NArg.data) ∧ Below u.heap.size u w2) := by
  have hl := h.len
  have hn := h.num
  refine (Heap_st h).mono ?_
  rintro r w' ⟨b, x, c, rfl, k, y⟩
  refine ⟨b, x, c, rfl, y, k, fun u z => rroots_is (k.below z), fun u z => ?_⟩
  have k2 := k.below z
  have h8 : (celL V 8 8).length = 8 := celL_len _ _ _
  have hi : Ints64 V := fun i => by
    have := hn i
    omega
  have := rfrom_is k2 (by omega) hi (some ⟨x, 8, none⟩) (celL V 8 8) (c - 8) (his_lies k2 (x := 8) (M := 8) (by omega) rfl) (by omega)
  rw [h8] at this
  refine this.mono fun e w2 q => ?_
  obtain ⟨rs, o, a1, e1, r8, _⟩ := gi_frm g
  unfold FrPost at q
  rw [e1] at q
  obtain ⟨G, q1, q2, q3, q4, q5⟩ := q
  refine ⟨G, q1, q2, ?_, q5⟩
  rw [gr, e1, q3, q4, r8]
  simp
end Go.Proofs.YtbghglkplbnnkaaGreatDoor
-- GcLk
namespace Go.Proofs.YtbghglkplbnnkaaGreatDoor
open Go.RowKit Sec
open Go.Proofs.YtbghglkplbnnkaaGreatDoor.Bk

theorem two_boxes (W : World) (h l : Int) (v0 v1 : Value) (u : World) (b : Below ((W.alloc (.cells #[.int .i64 h, .int .i64 l] 23)).alloc (.cells #[v0, v1] 27)).heap.size ((W.alloc (.cells #[.int .i64 h, .int .i64 l] 23)).alloc (.cells #[v0, v1] 27)) u) :
    (u.cell? ⟨W.heap.size, 0, none⟩ = some (.int .i64 h) ∧ u.cell? ⟨W.heap.size, 1, none⟩ = some (.int .i64 l) ∧ u.cell? ⟨W.heap.size + 1, 0, none⟩ = some v0 ∧ u.cell? ⟨W.heap.size + 1, 1, none⟩ = some v1) ∧ Below W.heap.size W u := by
  have t1 := Two2.made W (.int .i64 h) (.int .i64 l) 23
  have s1 : (W.alloc (.cells #[.int .i64 h, .int .i64 l] 23)).heap.size = W.heap.size + 1 := by simp
  have b1 : Below W.heap.size W (W.alloc (.cells #[.int .i64 h, .int .i64 l] 23)) := (Below.refl _ _).alloc (Nat.le_refl _) _
  generalize W.alloc (.cells #[.int .i64 h, .int .i64 l] 23) = u1 at *
  have t2 := Two2.made u1 v0 v1 27
  have b2 : Below u1.heap.size u1 (u1.alloc (.cells #[v0, v1] 27)) := (Below.refl _ _).alloc (Nat.le_refl _) _
  rw [s1] at t2
  generalize u1.alloc (.cells #[v0, v1] 27) = u2 at *
  have q1 := (t1.below b2).below b
  have q2 := t2.below b
  exact ⟨⟨q1.c0, q1.c1, q2.c0, q2.c1⟩, geo_next (geo_next b1 b2) b⟩
structure LkS (W : World) (B s H L : Nat) (V : List Int) (Gw : GArg) (kb : Nat) (u : World) : Prop where
  x : ∃ K, (Below W.heap.size W u ∧ St B K u s H L V ∧ W.heap.size ≤ B) ∧ Gw.In K ∧ K kb
  a : Gw.At u
  c : u.cell? ⟨kb, 0, none⟩ = some Gw.r.val ∧ u.cell? ⟨kb, 1, none⟩ = some (.slice Gw.a Gw.n.length Gw.c)
section
variable {W W' u u' : World} {B s H L kb : Nat} {V V' : List Int} {Gw : GArg}
theorem LkS.start (x : LgS W' B s H L V Gw u) (b : Below W.heap.size W W') (t : TypeId) : LkS W B s H L V Gw u.heap.size (u.alloc (.cells #[Gw.r.val, .slice Gw.a Gw.n.length Gw.c] t)) := by
  obtain ⟨⟨K, ⟨x1, x2, x3⟩, x4, _⟩, a⟩ := x
  have y : Below u.heap.size u (u.alloc (.cells #[Gw.r.val, .slice Gw.a Gw.n.length Gw.c] t)) := (Below.refl _ _).alloc (Nat.le_refl _) _
  have t1 := Two2.made u Gw.r.val (.slice Gw.a Gw.n.length Gw.c) t
  exact ⟨⟨_, ⟨geo_next (geo_next b x1) y, x2.more y, Nat.le_trans b.size x3⟩, x4.mono (fun k q => .inl q.1), .inr ⟨Nat.le_refl _, t1.lt⟩⟩, a.below y, t1.c0, t1.c1⟩
theorem LkS.start2 (x : LgS W' B s H L V Gw u) (b : Below W.heap.size W W') (ht : TyOk W.heap.size W) {kb : Nat} (h0 : W.heap.size ≤ kb) (h1 : Two2 W' kb (.slice none 0 0) (.slice none 0 0)) :
    Two2 u kb (.slice none 0 0) (.slice none 0 0) ∧ LkS W W.heap.size s H L V Gw kb ((u.setCell ⟨kb, 0, none⟩ Gw.r.val).setCell ⟨kb, 1, none⟩ (.slice Gw.a Gw.n.length Gw.c)) := by
  obtain ⟨⟨K, ⟨x1, x2, x3⟩, x4, x5⟩, a⟩ := x
  have hl := h1.lt
  have t1 := h1.below x1
  have t2 := t1.set2 Gw.r.val (.slice Gw.a Gw.n.length Gw.c)
  have b1 := geo_next b x1
  have s1 := x2.base (Nat.le_trans b.size x3) (ht.below b1)
  have bb : Below W.heap.size u ((u.setCell ⟨kb, 0, none⟩ Gw.r.val).setCell ⟨kb, 1, none⟩ (.slice Gw.a Gw.n.length Gw.c)) := ((Below.refl _ _).setCell (p := ⟨kb, 0, none⟩) h0 _).setCell (p := ⟨kb, 1, none⟩) h0 _
  have so : ∀ k, k ≠ kb → ((u.setCell ⟨kb, 0, none⟩ Gw.r.val).setCell ⟨kb, 1, none⟩ (.slice Gw.a Gw.n.length Gw.c)).heap[k]? = u.heap[k]? := fun k h => (heap_setCell_other _ ⟨kb, 1, none⟩ _ _ h).trans (heap_setCell_other _ ⟨kb, 0, none⟩ _ _ h)
  exact ⟨t1, ⟨K, ⟨b1.trans bb, s1.own bb (fun k hk _ => so k (fun e => hk (e ▸ x5 kb hl))), Nat.le_refl _⟩, x4.mono (fun k q => q.1), x5 kb hl⟩, a.blocks x4 (by simp) (fun k q => so k (by have := q.2; omega)), t2.c0, t2.c1⟩
theorem LkS.below (x : LkS W B s H L V Gw kb u) (y : Below u.heap.size u u') : LkS W B s H L V Gw kb u' := by
  obtain ⟨⟨K, ⟨x1, x2, x3⟩, x4⟩, a, c0, c1⟩ := x
  exact ⟨⟨K, ⟨geo_next x1 y, x2.below y, x3⟩, x4⟩, a.below y, (y.cell (p := ⟨kb, 0, none⟩) (cell_in c0)).trans c0, (y.cell (p := ⟨kb, 1, none⟩) (cell_in c1)).trans c1⟩
theorem LkS.call (x : LkS W B s H L V Gw kb u) {Q : Ending → Prop} {fn : FuncId} {args : Array Value} (y : ∀ K, St B K u s H L V → Calls Tryz.prog fn args u fun e w' => Q e ∧ St B K w' s H L V' ∧ Below B u w' ∧ KeptG K u w') :
    Calls Tryz.prog fn args u fun e w' => Q e ∧ LkS W B s H L V' Gw kb w' := by
  obtain ⟨⟨K, ⟨x1, x2, x3⟩, x4, x5⟩, a, c0, c1⟩ := x
  refine (y K x2).mono fun e w' ⟨q0, q1, q2, q3⟩ => ⟨q0, ⟨K, ⟨x1.trans (q2.mono x3), q1, x3⟩, x4, x5⟩, a.blocks x4 q2.size q3, ?_, ?_⟩
  · exact (World.cell?_of_block (a := ⟨kb, 0, none⟩) (q3 kb x5)).trans c0
  · exact (World.cell?_of_block (a := ⟨kb, 1, none⟩) (q3 kb x5)).trans c1
theorem LkS.st (x : LkS W B s H L V Gw kb u) : ∃ K, St B K u s H L V := by
  obtain ⟨⟨K, ⟨_, x2, _⟩, _⟩, _⟩ := x
  exact ⟨K, x2⟩
theorem LkS.b (x : LkS W B s H L V Gw kb u) : Below W.heap.size W u := by
  obtain ⟨⟨K, ⟨x1, _, _⟩, _⟩, _⟩ := x
  exact x1
end

theorem nSize_data : ∀ l : List NArg, nSize l = dSize (l.map NArg.data)
  | [] => rfl
  | x :: r => by
    rw [List.map_cons, nSize, dSize, nSize_data r]
    rfl
theorem dSize_ge : ∀ o : List (List Int × List Int), (o.length : Int) ≤ dSize o ∧ ∀ d ∈ o, (d.1.length : Int) + d.2.length + 1 ≤ dSize o
  | [] => ⟨by decide, fun d hd => by cases hd⟩
  | d :: r => by
    obtain ⟨h1, h2⟩ := dSize_ge r
    rw [dSize, List.length_cons]
    refine ⟨by omega, fun e he => ?_⟩
    rcases List.mem_cons.1 he with rfl | he
    · omega
    · have := h2 e he
      omega
section
variable {H L : Nat} {V T O : List Int} {Z : Int → Int}
def KpI (H L : Nat) (g : List Int × List (List Int × List Int)) (V : List Int) (ov : Bool) : Prop :=
  gr H L V = some g ∧ ((ov = false ∧ ∃ T O Z, Pro H L V T O Z []) ∨ (ov = true ∧ ∃ T Z, Fin H L V T Z ∧ Reach V T []))
variable {g : List Int × List (List Int × List Int)}
theorem KpI.begin (f : Fin H L V T Z) (e : gr H L V = some g) : ∃ V1, str H L V [] = (0, [], V1) ∧ KpI H L g V1 false ∧ hGc V1 = 1 := by
  obtain ⟨V1, T2, e1, p, r, _⟩ := f.start
  exact ⟨V1, e1, ⟨r.trans e, .inl ⟨rfl, T2, T, _, p⟩⟩, p.p.on⟩
theorem KpI.step (x : KpI H L g V false) {n : Int} (hn : 0 ≤ n) : ∃ o V2, stp H L V n = (o, 0, V2) ∧ KpI H L g V2 o ∧ (1000 ≤ n → o = true) := by
  obtain ⟨e, x⟩ := x
  rcases x with ⟨_, T, O, Z, p⟩ | ⟨q, _⟩
  · obtain ⟨o, V2, T2, e1, r, _, re, ex⟩ := p.stp hn
    refine ⟨o, V2, e1, ⟨r.trans e, ?_⟩, fun hb => ?_⟩
    · rcases ex with ⟨rfl, p2⟩ | ⟨rfl, f⟩
      · exact .inl ⟨rfl, _, _, _, p2⟩
      · exact .inr ⟨rfl, _, _, f, re⟩
    · obtain ⟨e2, hf⟩ := p.p.stp (n := n) hn
      have ov := go_over 1000 p.p (n := n) (by omega) hf
      rw [← e2, e1] at ov
      exact ov rfl
  · cases q
theorem KpI.gi {ov : Bool} (x : KpI H L g V ov) : ∃ T O Z, Gi H L V T O Z := by
  obtain ⟨_, ⟨_, T, O, Z, p⟩ | ⟨_, T, Z, f, _⟩⟩ := x
  · exact ⟨T, O, Z, p.p.gi⟩
  · exact ⟨T, [], Z, f.gi⟩
theorem KpI.size (x : KpI H L g V true) : hGc V = 0 ∧ hOk H L V = true ∧ hFr V - (16 + hSp V * (H : Int)) = dSize g.2 ∧ chkB H L V = true ∧ dSize g.2 ≤ 400 := by
  obtain ⟨e, ⟨q, _⟩ | ⟨_, T, Z, f, re⟩⟩ := x
  · cases q
  · obtain ⟨rs, o, at1, e1, d1, _⟩ := f.size re
    have eg : some (rs, o) = some g := by rw [← e, gr, e1]; rfl
    obtain rfl := Option.some.inj eg
    have hg := f.gi.geo
    obtain ⟨_, _, _, f4, _⟩ := fine_yes f.gi.ok
    exact ⟨f.off, f.gi.ok, d1.symm, f.check, by show dSize o ≤ 400; omega⟩
end
end Go.Proofs.YtbghglkplbnnkaaGreatDoor
-- GcReads
namespace Go.Proofs.YtbghglkplbnnkaaGreatDoor
open Go.RowKit Sec
open Go.Proofs.YtbghglkplbnnkaaGreatDoor.Bk

theorem dr_next {u u' : World} (b : Below u.drew.heap.size u.drew u') : Below u.heap.size u u' := (Below.refl _ _).drew.trans (b.mono (Nat.le_refl _))
theorem all_once {H L : Nat} {V T : List Int} {Z : Int → Int} {g : List Int × List (List Int × List Int)} (f : Fin H L V T Z) (e : gr H L V = some g) : ∃ V2 T2 Z2, alg H L V [] = (0, [], V2) ∧ Fin H L V2 T2 Z2 ∧ gr H L V2 = some g ∧ hSp V2 = 1 - hSp V ∧ hFr V2 - (16 + hSp V2 * (H : Int)) = dSize g.2 ∧ dSize g.2 ≤ 400 ∧ hOk H L V2 = true := by
  obtain ⟨V1, V2, T2, e1, e2, f2, r2, s2, rs, o, e3, d, _⟩ := fin_all f (n := 10000) (by decide)
  have eg : some (rs, o) = some g := e3.symm.trans e
  obtain rfl := Option.some.inj eg
  have hg := f2.gi.geo
  exact ⟨V2, T2, _, alg_yes f.off e1 e2, f2, r2.trans e, s2, d.symm, by show dSize o ≤ 400; omega, f2.gi.ok⟩
structure LnS (W : World) (B s H L : Nat) (V : List Int) (Gw : GArg) (kb : Nat) (G2 : GArg) (nb : Nat) (u : World) : Prop where
  k : LkS W B s H L V Gw kb u
  a : G2.At u
  lt : nb < u.heap.size
  c : (u.cell? ⟨kb, 0, none⟩ = some (.slice Gw.r.a Gw.r.l.length Gw.r.c) ∧ u.cell? ⟨kb, 1, none⟩ = some (.slice Gw.a Gw.n.length Gw.c)) ∧ u.cell? ⟨nb, 0, none⟩ = some (.slice G2.r.a G2.r.l.length G2.r.c) ∧ u.cell? ⟨nb, 1, none⟩ = some (.slice G2.a G2.n.length G2.c)
theorem LnS.below {W : World} {B s H L : Nat} {V : List Int} {Gw : GArg} {kb : Nat} {G2 : GArg} {nb : Nat} {u u' : World} (x : LnS W B s H L V Gw kb G2 nb u) (y : Below u.heap.size u u') : LnS W B s H L V Gw kb G2 nb u' :=
  have k := x.k.below y
  ⟨k, x.a.below y, Nat.lt_of_lt_of_le x.lt y.size, k.c, (y.cell (p := ⟨nb, 0, none⟩) x.lt).trans x.c.2.1, (y.cell (p := ⟨nb, 1, none⟩) x.lt).trans x.c.2.2⟩
theorem LnS.start {W : World} {B s H L : Nat} {V : List Int} {Gw : GArg} {kb : Nat} {G2 : GArg} {u : World} (x : LkS W B s H L V Gw kb u) (a : G2.At u) (t : TypeId) : LnS W B s H L V Gw kb G2 u.heap.size (u.alloc (.cells #[.slice G2.r.a G2.r.l.length G2.r.c, .slice G2.a G2.n.length G2.c] t)) := by
  have y : Below u.heap.size u (u.alloc (.cells #[.slice G2.r.a G2.r.l.length G2.r.c, .slice G2.a G2.n.length G2.c] t)) := (Below.refl _ _).alloc (Nat.le_refl _) _
  have t1 := Two2.made u (.slice G2.r.a G2.r.l.length G2.r.c) (.slice G2.a G2.n.length G2.c) t
  have k := x.below y
  exact ⟨k, a.below y, t1.lt, k.c, t1.c0, t1.c1⟩
theorem lk_reads {W : World} {B s H L : Nat} {V T O : List Int} {Z : Int → Int} {Gw : GArg} {kb : Nat} {u : World} (x : LkS W B s H L V Gw kb u) (g : Gi H L V T O Z) (e : gr H L V = some (Gw.r.l, Gw.n.map NArg.data)) :
    Calls Tryz.prog 14 #[.pointer (some ⟨s, 0, none⟩)] u fun r w' => ∃ b x c, r = .returned (.pointer (some ⟨b, 0, none⟩)) ∧ Below u.heap.size u w' ∧
      (∀ u, Below w'.heap.size w' u → Calls Tryz.prog 16 #[.pointer (some ⟨b, 0, none⟩)] u fun e w2 => e = .returned (.slice (some ⟨x, 8, none⟩) 8 (c - 8)) ∧ w2 = u) ∧
      (∀ u, Below w'.heap.size w' u → Calls Tryz.prog 15 #[.pointer (some ⟨b, 0, none⟩), .slice (some ⟨x, 8, none⟩) 8 (c - 8)] u fun e w2 => ∃ G2 : GArg, e = .returned (.tuple #[.agg #[.slice G2.r.a G2.r.l.length G2.r.c, .slice G2.a G2.n.length G2.c], .bool true]) ∧ G2.At w2 ∧ gAlike G2 Gw = true ∧ Below u.heap.size u w2) := by
  obtain ⟨K, h⟩ := x.st
  refine (heap_reads h g).mono ?_
  rintro r w' ⟨b, x, c, rfl, y, _, hR, hF⟩
  refine ⟨b, x, c, rfl, y, hR, fun u1 z => (hF u1 z).mono ?_⟩
  rintro e' w2 ⟨G2, rfl, ⟨hA, _⟩, e2, b2⟩
  have e3 : some (G2.r.l, G2.n.map NArg.data) = some (Gw.r.l, Gw.n.map NArg.data) := e2.symm.trans e
  exact ⟨G2, rfl, hA, decide_eq_true (Prod.mk.inj (Option.some.inj e3)), b2⟩
theorem lk_size {W : World} {B s H L : Nat} {V : List Int} {Gw : GArg} {kb : Nat} {u : World} (x : LkS W B s H L V Gw kb u) (h : dSize (Gw.n.map NArg.data) ≤ 400) : Calls Tryz.prog 19 #[.agg #[.slice Gw.r.a Gw.r.l.length Gw.r.c, .slice Gw.a Gw.n.length Gw.c]] u fun e w' => e = .returned (.int .i64 (nSize Gw.n)) ∧ Below u.heap.size u w' := by
  obtain ⟨g1, g2⟩ := dSize_ge (Gw.n.map NArg.data)
  rw [List.length_map] at g1
  exact rsize_is Gw u x.a.2.1 (by omega) (fun z hz => by
    have h5 := g2 z.data (List.mem_map.2 ⟨z, hz, rfl⟩)
    have e1 : z.data.1.length = z.s.l.length := rfl
    have e2 : z.data.2.length = z.w.l.length := rfl
    omega)
theorem LkS.read {W : World} {B s H L : Nat} {V : List Int} {Gw : GArg} {kb : Nat} {u : World} (x : LkS W B s H L V Gw kb u) {u1 : World} {G1 : GArg} (b : Below u.heap.size u u1) (hA : G1.At u1) (hI : G1.In (fun k => u.heap.size ≤ k ∧ k < u1.heap.size)) (t : TypeId) :
    LkS W B s H L V G1 u1.heap.size (u1.alloc (.cells #[.slice G1.r.a G1.r.l.length G1.r.c, .slice G1.a G1.n.length G1.c] t)) := by
  obtain ⟨⟨K, ⟨x1, x2, x3⟩, _⟩, _⟩ := x
  have y : Below u1.heap.size u1 (u1.alloc (.cells #[.slice G1.r.a G1.r.l.length G1.r.c, .slice G1.a G1.n.length G1.c] t)) := (Below.refl _ _).alloc (Nat.le_refl _) _
  have t1 := Two2.made u1 (.slice G1.r.a G1.r.l.length G1.r.c) (.slice G1.a G1.n.length G1.c) t
  have bs := b.size
  have ys := y.size
  have yl := t1.lt
  have z := geo_next b y
  exact ⟨⟨_, ⟨geo_next x1 z, x2.more z, x3⟩, hI.mono (fun k q => .inr ⟨q.1, Nat.lt_of_lt_of_le q.2 ys⟩), .inr ⟨bs, yl⟩⟩, hA.below y, t1.c0, t1.c1⟩
theorem run_ctl3 (v0 v1 v2 v3 : Value) (w : World) : (Instr.field 56 (.agg #[v0, v1, v2, v3]) 3).run Tryz.prog w = .ok v3 w := by kernel_rfl
end Go.Proofs.YtbghglkplbnnkaaGreatDoor
