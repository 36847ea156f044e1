import Derived.Deep.RegionHeld3
import Derived.Deep.CutBlock
import Derived.Deep.DeepCutAuto
import Derived.Test.YtbghglkplbnnkaaGreatDoorYGcD
import Derived.Test.YtbghglkplbnnkaaGreatDoorYStoreC
import Derived.Test.YtbghglkplbnnkaaGreatDoorYGraphA
import Derived.Test.YtbghglkplbnnkaaGreatDoorYHeap
import Derived.Test.YtbghglkplbnnkaaGreatDoorYFive
set_option linter.unusedVariables false
set_option linter.unusedSimpArgs false
-- EightSt
namespace Go.Proofs.YtbghglkplbnnkaaGreatDoor
open Go.RowKit Sec
open Go.Proofs.YtbghglkplbnnkaaGreatDoor.Bk

structure EiX (w : World) (xb : Nat) (vS : Value) (T : List Int) (vW : Value) (Tw : List Int) (u : World) : Prop where
  x0 : u.cell? ⟨xb, 0, none⟩ = some vS
  x1 : u.cell? ⟨xb, 1, none⟩ = some vW
  f0 : u.frozen? ⟨xb, 0, none⟩ = false
  f1 : u.frozen? ⟨xb, 1, none⟩ = false
  xS : w.heap.size ≤ xb
  os : u.ownsRow w.heap.size 3 1 vS T.length (vals T)
  ow : u.ownsRow w.heap.size 3 1 vW Tw.length (vals Tw)
  ns : vS.ownBlock ≠ some xb
  nw : vW.ownBlock ≠ some xb
  nn : ∀ k, vS.ownBlock = some k → vW.ownBlock ≠ some k
section
variable {w u u' : World} {xb : Nat} {vS vW : Value} {T Tw : List Int}
theorem EiX.lt (x : EiX w xb vS T vW Tw u) : xb < u.heap.size := cell_in x.x0
theorem EiX.start (hw : w.heap.size ≤ u.heap.size) (t : TypeId) : EiX w u.heap.size (.slice none 0 0) [] (.slice none 0 0) [] (u.alloc (.cells #[.slice none 0 0, .slice none 0 0] t)) :=
  ⟨by simp, by simp, by simp, by simp, hw, World.ownsRow_nil _ _ _ _, World.ownsRow_nil _ _ _ _, fun e => (by cases e), fun e => (by cases e), fun k e => (by cases e)⟩
end
def Ap2 (F : Nat → Prop) (rb q : Nat) (vN : Value) (k : Nat) : Prop := ¬ F k ∧ k ≠ q ∧ vN.ownBlock ≠ some k ∧ k ≠ rb
def Ei2 (w : World) (rb q : Nat) (rr : IArg) (vN : Value) (NL : List NArg) (u : World) : Prop :=
  ∃ F : Nat → Prop, Below w.heap.size w u ∧ FrR w rb q rr vN NL F u
def Ei3 (w : World) (rb q xb : Nat) (rr : IArg) (vN : Value) (NL : List NArg) (vS : Value) (T : List Int) (vW : Value) (Tw : List Int) (u : World) : Prop :=
  ∃ F : Nat → Prop, Below w.heap.size w u ∧ FrR w rb q rr vN NL F u ∧ EiX w xb vS T vW Tw u ∧ ∀ k, (k = xb ∨ vS.ownBlock = some k ∨ vW.ownBlock = some k) → Ap2 F rb q vN k
section
variable {w u u' : World} {rb q xb : Nat} {rr : IArg} {vN vS vW : Value} {NL : List NArg} {T Tw : List Int}
theorem Ei3.b (x : Ei3 w rb q xb rr vN NL vS T vW Tw u) : Below w.heap.size w u := x.elim fun _ y => y.1
theorem Ei2.box (x : Ei2 w rb q rr vN NL u) (t : TypeId) : Ei3 w rb q u.heap.size rr vN NL (.slice none 0 0) [] (.slice none 0 0) [] (u.alloc (.cells #[.slice none 0 0, .slice none 0 0] t)) := by
  obtain ⟨F, x1, x2⟩ := x
  have y : Below u.heap.size u (u.alloc (.cells #[.slice none 0 0, .slice none 0 0] t)) := (Below.refl _ _).alloc (Nat.le_refl _) _
  refine ⟨F, geo_next x1 y, x2.below y, EiX.start x1.size t, fun k hk => ?_⟩
  rcases hk with hk | hk | hk
  · subst hk
    have hrl := cell_in x2.rbx.c0
    have hql := cell_in x2.q0
    simp only at hrl hql
    refine ⟨fun e => ?_, fun e => by omega, fun e => ?_, fun e => by omega⟩
    · have := x2.lt _ e
      omega
    · have := (x2.on.lt _ e).2
      omega
  · cases hk
  · cases hk
theorem Ei3.cells (x : Ei3 w rb q xb rr vN NL vS T vW Tw u) : u.cell? ⟨xb, 0, none⟩ = some vS ∧ u.frozen? ⟨xb, 0, none⟩ = false ∧ u.cell? ⟨xb, 1, none⟩ = some vW ∧ u.frozen? ⟨xb, 1, none⟩ = false := by
  obtain ⟨F, _, _, x3, _⟩ := x
  exact ⟨x3.x0, x3.f0, x3.x1, x3.f1⟩
theorem Ei3.rows (x : Ei3 w rb q xb rr vN NL vS T vW Tw u) : u.ownsRow w.heap.size 3 1 vS T.length (vals T) ∧ u.ownsRow w.heap.size 3 1 vW Tw.length (vals Tw) := by
  obtain ⟨F, _, _, x3, _⟩ := x
  exact ⟨x3.os, x3.ow⟩
theorem Ei3.sep (x : Ei3 w rb q xb rr vN NL vS T vW Tw u) : xb < u.heap.size ∧ vS.ownBlock ≠ some xb ∧ vW.ownBlock ≠ some xb := by
  obtain ⟨F, _, _, x3, _⟩ := x
  exact ⟨x3.lt, x3.ns, x3.nw⟩
theorem Ei3.slot (x : Ei3 w rb q xb rr vN NL vS T vW Tw u) {n : Int} {u1 u2 : World} (y : Below u.heap.size u u1) {gg m cap : Nat} (hm : m = T.length + 1)
    (ho : u2.ownsRow w.heap.size 3 1 (.slice (some ⟨gg, 0, none⟩) m cap) m (vals T ++ [.int .i64 n])) (hg : u1.grownBy u2 vS.ownBlock) (hat : vS.ownBlock = some gg ∨ gg = u1.heap.size) :
    Ei3 w rb q xb rr vN NL (.slice (some ⟨gg, 0, none⟩) m cap) (T ++ [n]) vW Tw (u2.setCell ⟨xb, 0, none⟩ (.slice (some ⟨gg, 0, none⟩) m cap)) := by
  subst hm
  obtain ⟨F, x1, x2, x3, x4⟩ := x
  have ys := y.size
  have gs := hg.size
  have hxl := x3.lt
  have ss : (u2.setCell ⟨xb, 0, none⟩ (.slice (some ⟨gg, 0, none⟩) (T.length + 1) cap)).heap.size = u2.heap.size := by simp
  have same0 : ∀ k, k < u.heap.size → vS.ownBlock ≠ some k → u2.heap[k]? = u.heap[k]? := fun k h1 h2 => (hg.block k (by omega) (fun e => h2 e.symm)).trans (y.block k h1)
  have so : ∀ k, k ≠ xb → (u2.setCell ⟨xb, 0, none⟩ (.slice (some ⟨gg, 0, none⟩) (T.length + 1) cap)).heap[k]? = u2.heap[k]? := fun k h3 => heap_setCell_other _ _ _ _ h3
  have bb : Below w.heap.size w (u2.setCell ⟨xb, 0, none⟩ (.slice (some ⟨gg, 0, none⟩) (T.length + 1) cap)) :=
    ((geo_next x1 y).grown hg (by have := x1.size; omega) (fun k e => (x3.os.lt k e).1)).setCell (p := ⟨xb, 0, none⟩) x3.xS _
  have hgx : gg ≠ xb := fun e => by
    rcases hat with z | z
    · exact x3.ns (by rw [z, e])
    · omega
  have ex := same0 xb hxl x3.ns
  have c0 : u2.cell? ⟨xb, 0, none⟩ = some vS := (World.cell?_of_block (a := ⟨xb, 0, none⟩) ex).trans x3.x0
  have c1 : u2.cell? ⟨xb, 1, none⟩ = some vW := (World.cell?_of_block (a := ⟨xb, 1, none⟩) ex).trans x3.x1
  have hto : ∀ k, vW.ownBlock = some k → k < u.heap.size ∧ k ≠ xb ∧ vS.ownBlock ≠ some k := fun k hk => ⟨(x3.ow.lt k hk).2, fun e => x3.nw (by rw [hk, e]), fun z => x3.nn k z hk⟩
  have oO : u2.ownsRow w.heap.size 3 1 vW Tw.length (vals Tw) := hb_same x3.ow (fun k hk => same0 k (hto k hk).1 (hto k hk).2.2)
  have e : vals (T ++ [n]) = vals T ++ [.int .i64 n] := by simp [vals]
  refine ⟨F, bb, ?_, ?_, fun k hk => ?_⟩
  · refine x2.keep (by omega) (fun k hk => ?_)
    have h : k < u.heap.size ∧ k ≠ xb ∧ vS.ownBlock ≠ some k := by
      have hrl := cell_in x2.rbx.c0
      have hql := cell_in x2.q0
      obtain ⟨a1, a2, a3, a4⟩ := x4 xb (.inl rfl)
      refine ⟨?_, fun e => ?_, fun e => ?_⟩
      · rcases hk with rfl | hk | hk | rfl
        · exact hql
        · exact (x2.on.lt k hk).2
        · exact x2.lt k hk
        · exact hrl
      · subst e
        rcases hk with hk | hk | hk | hk
        · exact a2 hk
        · exact a3 hk
        · exact a1 hk
        · exact a4 hk
      · obtain ⟨b1, b2, b3, b4⟩ := x4 k (.inr (.inl e))
        rcases hk with hk | hk | hk | hk
        · exact b2 hk
        · exact b3 hk
        · exact b1 hk
        · exact b4 hk
    exact (so k h.2.1).trans (same0 k h.1 h.2.2)
  · refine ⟨?_, ?_, by rw [World.frozen?_setCell]; exact (World.frozen?_of_block (a := ⟨xb, 0, none⟩) ex).trans x3.f0, by rw [World.frozen?_setCell]; exact (World.frozen?_of_block (a := ⟨xb, 1, none⟩) ex).trans x3.f1, x3.xS, ?_, ?_, ?_, ?_, ?_⟩
    · exact World.cell?_setCell_same _ _ _ c0
    · simp [go_sem, c1]
    · rw [List.length_append, e]
      exact hb_same ho (fun g hg' => so g (fun e => hgx (by
        obtain rfl : gg = g := by simpa [Value.ownBlock] using hg'
        exact e)))
    · exact hb_same oO (fun k hk => so k (hto k hk).2.1)
    · exact fun z => hgx (by simpa [Value.ownBlock] using z)
    · exact x3.nw
    · intro k hk z
      obtain rfl : gg = k := by simpa [Value.ownBlock] using hk
      rcases hat with y' | y'
      · exact (hto gg z).2.2 y'
      · have := (hto gg z).1
        omega
  · rcases hk with hk | hk | hk
    · exact x4 k (.inl hk)
    · obtain rfl : gg = k := by simpa [Value.ownBlock] using hk
      rcases hat with z | z
      · exact x4 gg (.inr (.inl z))
      · have hrl := cell_in x2.rbx.c0
        have hql := cell_in x2.q0
        simp only at hrl hql
        refine ⟨fun e => ?_, fun e => by omega, fun e => ?_, fun e => by omega⟩
        · have := x2.lt _ e
          omega
        · have := (x2.on.lt _ e).2
          omega
    · exact x4 k (.inr (.inr hk))
theorem Ei3.word (x : Ei3 w rb q xb rr vN NL vS T vW Tw u) {n : Int} {u1 u2 : World} (y : Below u.heap.size u u1) {gg m cap : Nat} (hm : m = Tw.length + 1)
    (ho : u2.ownsRow w.heap.size 3 1 (.slice (some ⟨gg, 0, none⟩) m cap) m (vals Tw ++ [.int .i64 n])) (hg : u1.grownBy u2 vW.ownBlock) (hat : vW.ownBlock = some gg ∨ gg = u1.heap.size) :
    Ei3 w rb q xb rr vN NL vS T (.slice (some ⟨gg, 0, none⟩) m cap) (Tw ++ [n]) (u2.setCell ⟨xb, 1, none⟩ (.slice (some ⟨gg, 0, none⟩) m cap)) := by
  subst hm
  obtain ⟨F, x1, x2, x3, x4⟩ := x
  have ys := y.size
  have gs := hg.size
  have hxl := x3.lt
  have ss : (u2.setCell ⟨xb, 1, none⟩ (.slice (some ⟨gg, 0, none⟩) (Tw.length + 1) cap)).heap.size = u2.heap.size := by simp
  have same0 : ∀ k, k < u.heap.size → vW.ownBlock ≠ some k → u2.heap[k]? = u.heap[k]? := fun k h1 h2 => (hg.block k (by omega) (fun e => h2 e.symm)).trans (y.block k h1)
  have so : ∀ k, k ≠ xb → (u2.setCell ⟨xb, 1, none⟩ (.slice (some ⟨gg, 0, none⟩) (Tw.length + 1) cap)).heap[k]? = u2.heap[k]? := fun k h3 => heap_setCell_other _ _ _ _ h3
  have bb : Below w.heap.size w (u2.setCell ⟨xb, 1, none⟩ (.slice (some ⟨gg, 0, none⟩) (Tw.length + 1) cap)) :=
    ((geo_next x1 y).grown hg (by have := x1.size; omega) (fun k e => (x3.ow.lt k e).1)).setCell (p := ⟨xb, 1, none⟩) x3.xS _
  have hgx : gg ≠ xb := fun e => by
    rcases hat with z | z
    · exact x3.nw (by rw [z, e])
    · omega
  have ex := same0 xb hxl x3.nw
  have c0 : u2.cell? ⟨xb, 0, none⟩ = some vS := (World.cell?_of_block (a := ⟨xb, 0, none⟩) ex).trans x3.x0
  have c1 : u2.cell? ⟨xb, 1, none⟩ = some vW := (World.cell?_of_block (a := ⟨xb, 1, none⟩) ex).trans x3.x1
  have hto : ∀ k, vS.ownBlock = some k → k < u.heap.size ∧ k ≠ xb ∧ vW.ownBlock ≠ some k := fun k hk => ⟨(x3.os.lt k hk).2, fun e => x3.ns (by rw [hk, e]), x3.nn k hk⟩
  have oO : u2.ownsRow w.heap.size 3 1 vS T.length (vals T) := hb_same x3.os (fun k hk => same0 k (hto k hk).1 (hto k hk).2.2)
  have e : vals (Tw ++ [n]) = vals Tw ++ [.int .i64 n] := by simp [vals]
  refine ⟨F, bb, ?_, ?_, fun k hk => ?_⟩
  · refine x2.keep (by omega) (fun k hk => ?_)
    have h : k < u.heap.size ∧ k ≠ xb ∧ vW.ownBlock ≠ some k := by
      have hrl := cell_in x2.rbx.c0
      have hql := cell_in x2.q0
      obtain ⟨a1, a2, a3, a4⟩ := x4 xb (.inl rfl)
      refine ⟨?_, fun e => ?_, fun e => ?_⟩
      · rcases hk with rfl | hk | hk | rfl
        · exact hql
        · exact (x2.on.lt k hk).2
        · exact x2.lt k hk
        · exact hrl
      · subst e
        rcases hk with hk | hk | hk | hk
        · exact a2 hk
        · exact a3 hk
        · exact a1 hk
        · exact a4 hk
      · obtain ⟨b1, b2, b3, b4⟩ := x4 k (.inr (.inr e))
        rcases hk with hk | hk | hk | hk
        · exact b2 hk
        · exact b3 hk
        · exact b1 hk
        · exact b4 hk
    exact (so k h.2.1).trans (same0 k h.1 h.2.2)
  · refine ⟨?_, ?_, by rw [World.frozen?_setCell]; exact (World.frozen?_of_block (a := ⟨xb, 0, none⟩) ex).trans x3.f0, by rw [World.frozen?_setCell]; exact (World.frozen?_of_block (a := ⟨xb, 1, none⟩) ex).trans x3.f1, x3.xS, ?_, ?_, ?_, ?_, ?_⟩
    · simp [go_sem, c0]
    · exact World.cell?_setCell_same _ _ _ c1
    · exact hb_same oO (fun k hk => so k (hto k hk).2.1)
    · rw [List.length_append, e]
      exact hb_same ho (fun g hg' => so g (fun e => hgx (by
        obtain rfl : gg = g := by simpa [Value.ownBlock] using hg'
        exact e)))
    · exact x3.ns
    · exact fun z => hgx (by simpa [Value.ownBlock] using z)
    · intro k hk z
      obtain rfl : gg = k := by simpa [Value.ownBlock] using z
      rcases hat with y' | y'
      · exact (hto gg hk).2.2 y'
      · have := (hto gg hk).1
        omega
  · rcases (hk.imp id Or.symm : k = xb ∨ _ ∨ _) with hk | hk | hk
    · exact x4 k (.inl hk)
    · obtain rfl : gg = k := by simpa [Value.ownBlock] using hk
      rcases hat with z | z
      · exact x4 gg (.inr (.inr z))
      · have hrl := cell_in x2.rbx.c0
        have hql := cell_in x2.q0
        simp only at hrl hql
        refine ⟨fun e => ?_, fun e => by omega, fun e => ?_, fun e => by omega⟩
        · have := x2.lt _ e
          omega
        · have := (x2.on.lt _ e).2
          omega
    · exact x4 k (.inr (.inl hk))
theorem Ei3.push (x : Ei3 w rb q xb rr vN NL vS T vW Tw u) (hT : ∀ z ∈ T, (Lit.int .i64 z).wf = true) (hW : ∀ z ∈ Tw, (Lit.int .i64 z).wf = true) (h1 : T.length ≤ maxLen) (h2 : Tw.length ≤ maxLen) :
    ∃ z : NArg, vS = z.s.val ∧ vW = z.w.val ∧ ∀ {u1 u2 : World} (_ : Below u.heap.size u u1) {gg m cap : Nat} (_ : m = NL.length + 1)
      (_ : u2.ownsRow w.heap.size 61 2 (.slice (some ⟨gg, 0, none⟩) m cap) m (flat NArg.cells NL ++ z.cells)) (_ : u1.grownBy u2 vN.ownBlock) (_ : vN.ownBlock = some gg ∨ gg = u1.heap.size),
      Ei2 w rb q rr (.slice (some ⟨gg, 0, none⟩) m cap) (NL ++ [z]) (u2.setCell ⟨q, 1, none⟩ (.slice (some ⟨gg, 0, none⟩) m cap)) := by
  obtain ⟨F, x1, x2, x3, x4⟩ := x
  obtain ⟨i1, e1, l1, a1, k1⟩ := own_iarg x3.os hT h1
  obtain ⟨i2, e2, l2, a2, k2⟩ := own_iarg x3.ow hW h2
  refine ⟨⟨i1, i2⟩, e1, e2, ?_⟩
  intro u1 u2 y gg m cap hm ho hg hat
  subst hm
  have ys := y.size
  have hat' : ∀ k, (Value.slice (some ⟨gg, 0, none⟩) (NL.length + 1) cap).ownBlock = some k → vN.ownBlock = some k ∨ u1.heap.size ≤ k := fun k e => by
    obtain rfl : gg = k := by simpa [Value.ownBlock] using e
    rcases hat with z | z
    · exact .inl z
    · exact .inr (by omega)
  have bb : Below w.heap.size w (u2.setCell ⟨q, 1, none⟩ (.slice (some ⟨gg, 0, none⟩) (NL.length + 1) cap)) :=
    ((geo_next x1 y).grown hg (by have := x1.size; omega) (fun k e => (x2.on.lt k e).1)).setCell (p := ⟨q, 1, none⟩) x2.qS _
  refine ⟨_, bb, x2.push (z := ⟨i1, i2⟩) ⟨a1, a2⟩ y (fun a ha => ?_) (fun a ha => ?_) ho hg hat'⟩
  · rcases ha with ha | ha
    · have e := k1 a ha
      obtain ⟨b1, b2, b3, b4⟩ := x4 _ (.inr (.inl e))
      exact ⟨(x3.os.lt _ e).2, b2, b3, b4⟩
    · have e := k2 a ha
      obtain ⟨b1, b2, b3, b4⟩ := x4 _ (.inr (.inr e))
      exact ⟨(x3.ow.lt _ e).2, b2, b3, b4⟩
  · rcases ha with ha | ha
    · exact (x3.os.lt _ (k1 a ha)).1
    · exact (x3.ow.lt _ (k2 a ha)).1
theorem Ei2.parts (x : Ei2 w rb q rr vN NL u) : q < u.heap.size ∧ vN.ownBlock ≠ some q ∧ u.cell? ⟨q, 0, none⟩ = some rr.val ∧ u.cell? ⟨q, 1, none⟩ = some vN ∧ u.frozen? ⟨q, 1, none⟩ = false ∧ u.ownsRow w.heap.size 61 2 vN NL.length (flat NArg.cells NL) := by
  obtain ⟨F, _, x2⟩ := x
  exact ⟨cell_in x2.q0, fun e => (x2.nF q e).2 rfl, x2.q0, x2.q1, x2.qf, x2.on⟩
theorem Ei3.parts (x : Ei3 w rb q xb rr vN NL vS T vW Tw u) : q < u.heap.size ∧ vN.ownBlock ≠ some q ∧ u.cell? ⟨q, 0, none⟩ = some rr.val ∧ u.cell? ⟨q, 1, none⟩ = some vN ∧ u.frozen? ⟨q, 1, none⟩ = false ∧ u.ownsRow w.heap.size 61 2 vN NL.length (flat NArg.cells NL) := by
  obtain ⟨F, x1, x2, _⟩ := x
  exact Ei2.parts ⟨F, x1, x2⟩
theorem Ei2.told (x : Ei2 w rb q rr vN NL u) (hrb : w.heap.size ≤ rb) (hl : NL.length ≤ maxLen) : RbX rb u ∧
    ∀ v0 v1, ∃ G : GArg, G.val = .agg #[rr.val, vN] ∧ G.At ((u.setCell ⟨rb, 0, none⟩ v0).setCell ⟨rb, 1, none⟩ v1) ∧ Below w.heap.size w ((u.setCell ⟨rb, 0, none⟩ v0).setCell ⟨rb, 1, none⟩ v1) := by
  obtain ⟨F, x1, x2⟩ := x
  refine ⟨x2.rbx, fun v0 v1 => ?_⟩
  have so : ∀ k, k ≠ rb → ((u.setCell ⟨rb, 0, none⟩ v0).setCell ⟨rb, 1, none⟩ v1).heap[k]? = u.heap[k]? := fun k h => (heap_setCell_other _ ⟨rb, 1, none⟩ _ _ h).trans (heap_setCell_other _ ⟨rb, 0, none⟩ _ _ h)
  have hs : u.heap.size ≤ ((u.setCell ⟨rb, 0, none⟩ v0).setCell ⟨rb, 1, none⟩ v1).heap.size := by simp
  have hF : ∀ k, F k → ((u.setCell ⟨rb, 0, none⟩ v0).setCell ⟨rb, 1, none⟩ v1).heap[k]? = u.heap[k]? := fun k hk => so k (fun e => x2.rF.1 (e ▸ hk))
  have on : ((u.setCell ⟨rb, 0, none⟩ v0).setCell ⟨rb, 1, none⟩ v1).ownsRow w.heap.size 61 2 vN NL.length (flat NArg.cells NL) := hb_same x2.on (fun k hk => so k (fun e => x2.rF.2.2 (by rw [hk, e])))
  obtain ⟨a, c, rfl, h1, _⟩ := own_formK on
  exact ⟨⟨rr, a, NL, c⟩, rfl, ⟨x2.rl.blocks x2.rk hs hF, h1, fun z hz => ⟨(x2.nl z hz).1.1.blocks (x2.nl z hz).2.1 hs hF, (x2.nl z hz).1.2.blocks (x2.nl z hz).2.2 hs hF⟩, hl⟩, (x1.setCell (p := ⟨rb, 0, none⟩) hrb _).setCell (p := ⟨rb, 1, none⟩) hrb _⟩
end
end Go.Proofs.YtbghglkplbnnkaaGreatDoor
-- Eight
namespace Go.Proofs.YtbghglkplbnnkaaGreatDoor
open Go.RowKit Sec
open Go.Proofs.YtbghglkplbnnkaaGreatDoor.Bk

set_option maxRecDepth 100000 in
set_option maxHeartbeats 2000000 in
theorem eplace_is (v : Int) (n : Nat) (hn : n ≤ 1000) : ∃ r : Nat, r ≤ n ∧ ∀ w, Calls Tryz.prog 49 #[.int .i64 v, .int .i64 (n : Int)] w fun e w' => e = .returned (.int .i64 (r : Int)) ∧ w' = w := by
  obtain ⟨⟨a, b⟩, K, h, _, e⟩ := turn_at v (n + 1) (by omega)
  refine ⟨K, by omega, fun w => ?_⟩
  have hz : ((n : Int) + 1) = ((n + 1 : Nat) : Int) := by omega
  rw [show ((n + 1 : Nat) : Int) = (n : Int) + 1 by omega] at a b e
  have h1 : IntKind.i64.wrap ((n : Int) + 1) = (n : Int) + 1 := w64_nd (by omega) (by omega)
  have h2 : IntKind.i64.wrap (v.tmod ((n : Int) + 1) + (n : Int)) = v.tmod ((n : Int) + 1) + (n : Int) := w64_nd (by omega) (by omega)
  have h3 : IntKind.i64.wrap (v.tmod ((n : Int) + 1) + (n : Int) + 1) = v.tmod ((n : Int) + 1) + (n : Int) + 1 := w64_nd (by omega) (by omega)
  have h4 : (v.tmod ((n : Int) + 1) + (n : Int) + 1).tmod ((n : Int) + 1) = (K : Int) := by rw [← e, Int.add_assoc]
  have h5 : ¬ ((n : Int) + 1 = 0) := by omega
  clear e hz
  go_enter Tryz.func49, Tryz.ntmps49
  go_wp2_with fail
  go_ret
  exact ⟨rfl, rfl⟩
def Ei1 (w : World) (rb gr q : Nat) (R : List Int) (u : World) : Prop :=
  (Below w.heap.size w u ∧ FrG w rb gr q R u) ∧ w.heap.size ≤ rb ∧ w.heap.size ≤ q ∧ rb ≠ gr ∧ rb ≠ q ∧ gr ≠ q
theorem Ei1.start (w : World) : Ei1 w w.heap.size (w.heap.size + 1) (w.heap.size + 1 + 1) [0, 0, 0, 0, 0, 0, 0, 0]
    (((w.alloc (.cells #[.slice none 0 0, .slice none 0 0] 27)).alloc (.cells #[.int .i64 0, .int .i64 0, .int .i64 0, .int .i64 0, .int .i64 0, .int .i64 0, .int .i64 0, .int .i64 0] 3)).alloc (.cells #[.slice (some ⟨w.heap.size + 1, 0, none⟩) 8 8, .slice none 0 0] 27)) := by
  have t1 := Two2.made w (.slice none 0 0) (.slice none 0 0) 27
  have s1 : (w.alloc (.cells #[.slice none 0 0, .slice none 0 0] 27)).heap.size = w.heap.size + 1 := by simp
  have b1 : Below w.heap.size w (w.alloc (.cells #[.slice none 0 0, .slice none 0 0] 27)) := (Below.refl _ _).alloc (Nat.le_refl _) _
  generalize w.alloc (.cells #[.slice none 0 0, .slice none 0 0] 27) = u1 at *
  have o2 := World.ownsRow_lit (base := w.heap.size) (e := 3) (size := 1) u1 #[.int .i64 0, .int .i64 0, .int .i64 0, .int .i64 0, .int .i64 0, .int .i64 0, .int .i64 0, .int .i64 0] 8 (by omega) (by decide) rfl
  have s2 : (u1.alloc (.cells #[.int .i64 0, .int .i64 0, .int .i64 0, .int .i64 0, .int .i64 0, .int .i64 0, .int .i64 0, .int .i64 0] 3)).heap.size = w.heap.size + 2 := by simp [s1]
  have b2 : Below u1.heap.size u1 (u1.alloc (.cells #[.int .i64 0, .int .i64 0, .int .i64 0, .int .i64 0, .int .i64 0, .int .i64 0, .int .i64 0, .int .i64 0] 3)) := (Below.refl _ _).alloc (Nat.le_refl _) _
  rw [s1] at o2
  generalize u1.alloc (.cells #[.int .i64 0, .int .i64 0, .int .i64 0, .int .i64 0, .int .i64 0, .int .i64 0, .int .i64 0, .int .i64 0] 3) = u2 at *
  have t3 := Two2.made u2 (.slice (some ⟨w.heap.size + 1, 0, none⟩) 8 8) (.slice none 0 0) 27
  have s3 : (u2.alloc (.cells #[.slice (some ⟨w.heap.size + 1, 0, none⟩) 8 8, .slice none 0 0] 27)).heap.size = w.heap.size + 3 := by simp [s2]
  have b3 : Below u2.heap.size u2 (u2.alloc (.cells #[.slice (some ⟨w.heap.size + 1, 0, none⟩) 8 8, .slice none 0 0] 27)) := (Below.refl _ _).alloc (Nat.le_refl _) _
  rw [s2] at t3
  generalize u2.alloc (.cells #[.slice (some ⟨w.heap.size + 1, 0, none⟩) 8 8, .slice none 0 0] 27) = u3 at *
  have r := (t1.below b2).below b3
  exact ⟨⟨geo_next (geo_next b1 b2) b3, ⟨⟨r.c0, r.c1, r.f0, r.f1⟩, t3.c0, t3.c1, t3.f1, own_below o2 b3, rfl⟩⟩, Nat.le_refl _, by omega, by omega, by omega, by omega⟩
section
variable {w u u' : World} {rb gr q : Nat} {R : List Int}
theorem Ei1.b (x : Ei1 w rb gr q R u) : Below w.heap.size w u := x.1.1
theorem Ei1.below (x : Ei1 w rb gr q R u) (y : Below u.heap.size u u') : Ei1 w rb gr q R u' := by
  obtain ⟨⟨x1, x2⟩, x3⟩ := x
  refine ⟨⟨geo_next x1 y, x2.keep (fun k hk => y.block k ?_)⟩, x3⟩
  rcases hk with rfl | rfl | rfl
  · exact cell_in x2.rx.c0
  · exact (x2.o.lt _ rfl).2
  · exact cell_in x2.q0
theorem Ei1.arr (x : Ei1 w rb gr q R u) {k : Nat} (hk : k < 8) : u.cell? ⟨gr, k, none⟩ = some (.int .i64 (R.getD k 0)) ∧ u.frozen? ⟨gr, k, none⟩ = false :=
  owns_cell x.1.2.o (hb_vals (by rw [x.1.2.rl]; exact hk))
theorem Ei1.put (x : Ei1 w rb gr q R u) (k : Nat) (z : Int) : Ei1 w rb gr q (R.set k z) (u.setCell ⟨gr, k, none⟩ (.int .i64 z)) := by
  obtain ⟨⟨x1, x2⟩, x3, x3', x4, x5, x6⟩ := x
  have hg := x2.o.lt gr rfl
  have same : ∀ j, j ≠ gr → (u.setCell ⟨gr, k, none⟩ (.int .i64 z)).heap[j]? = u.heap[j]? := fun j q => heap_setCell_other _ _ _ _ q
  have eq := same q (fun e => x6 e.symm)
  refine ⟨⟨x1.setCell (p := ⟨gr, k, none⟩) hg.1 _, ⟨x2.rx.keep (same rb x4), (World.cell?_of_block (a := ⟨q, 0, none⟩) eq).trans x2.q0, (World.cell?_of_block (a := ⟨q, 1, none⟩) eq).trans x2.q1, (World.frozen?_of_block (a := ⟨q, 1, none⟩) eq).trans x2.qf, ?_, by rw [List.length_set]; exact x2.rl⟩⟩, x3, x3', x4, x5, x6⟩
  rw [vals, List.map_set]
  exact owns_set x2.o k _
theorem Ei1.done (x : Ei1 w rb gr q R u) (hw : ∀ z ∈ R, (Lit.int .i64 z).wf = true) : Ei2 w rb q ⟨some ⟨gr, 0, none⟩, R, 8⟩ (.slice none 0 0) [] u := by
  obtain ⟨⟨x1, x2⟩, x3, x3', x4, x5, x6⟩ := x
  refine ⟨fun k => k = gr, x1, ⟨?_, x2.q1, x2.qf, x3', ⟨?_, hw, by rw [x2.rl]; decide⟩, fun a e => ?_, World.ownsRow_nil _ _ _ _, fun z hz => (by cases hz), fun k hk => (by cases hk), ?_, fun k hk => ?_, x2.rx, ⟨x4, x5, fun e => by cases e⟩, fun k hk => by rw [show k = gr from hk]; exact (x2.o.lt gr rfl).1⟩⟩
  · rw [x2.q0]
    show _ = some (Value.slice (some ⟨gr, 0, none⟩) R.length 8)
    rw [x2.rl]
  · obtain ⟨a, c', e, h1, _⟩ := own_form x2.o
    have e : (some (⟨gr, 0, none⟩ : Addr)) = a := by simpa using congrArg (fun v => match v with | Value.slice a _ _ => a | _ => none) e
    rw [e]
    exact h1
  · have e : some (⟨gr, 0, none⟩ : Addr) = some a := e
    cases e
    exact rfl
  · exact fun e => x6 e.symm
  · subst hk
    exact (x2.o.lt _ rfl).2
end
def liN (z : NArg) : Bool := decide (z.s.l.length ≤ 30 ∧ z.w.l.length ≤ 60)
def liB (A : GArg) : Bool := decide (A.n.length ≤ 60 ∧ A.r.l.length ≤ 20) && (A.n.take 100).all liN
theorem liB_yes {A : GArg} (h : liB A = true) : A.n.length ≤ 60 := by
  rw [liB, Bool.and_eq_true] at h
  exact (of_decide_eq_true h.1).1
theorem gbox (w : World) (v0 v1 : Value) : ∀ u, Below (w.alloc (.cells #[v0, v1] 27)).heap.size (w.alloc (.cells #[v0, v1] 27)) u → (u.cell? ⟨w.heap.size, 0, none⟩ = some v0 ∧ u.cell? ⟨w.heap.size, 1, none⟩ = some v1) ∧ Below w.heap.size w u := fun u y => by
  have t1 := (Two2.made w v0 v1 27).below y
  have b1 : Below w.heap.size w (w.alloc (.cells #[v0, v1] 27)) := (Below.refl _ _).alloc (Nat.le_refl _) _
  exact ⟨⟨t1.c0, t1.c1⟩, geo_next b1 y⟩
set_option maxRecDepth 100000 in
set_option maxHeartbeats 4000000 in
theorem light_is (A : GArg) (w : World) (hA : A.At w) : Calls Tryz.prog 21 #[A.val] w fun e w' => e = .returned (.bool (liB A)) ∧ Below w.heap.size w w' := by
  have HA := Lib.hid hA
  have hrl : A.r.l.length ≤ maxLen := hA.1.2.2
  have hnl : A.n.length ≤ maxLen := hA.2.2.2
  obtain ⟨⟨ara, arl, arc⟩, aa, an, ac⟩ := A
  dsimp only at hrl hnl
  unfold maxLen at hrl hnl
  obtain ⟨t, ht⟩ : ∃ t, t = liB ⟨⟨ara, arl, arc⟩, aa, an, ac⟩ := ⟨_, rfl⟩
  rw [← ht]
  have HT : Hid (t = (decide (an.length ≤ 60 ∧ arl.length ≤ 20) && (an.take 100).all liN)) := Lib.hid ht
  have HB := Lib.hid (gbox w (.slice ara arl.length arc) (.slice aa an.length ac))
  clear hA ht
  unfold GArg.val IArg.val
  go_enter Tryz.func21, Tryz.ntmps21
  go_wp2_with fail
  have H1 := Lib.hid (HB.out _ (Below.refl _ _))
  have HL : Hid (∀ u, Below (w.alloc (.cells #[.slice ara arl.length arc, .slice aa an.length ac] 27)).heap.size (w.alloc (.cells #[.slice ara arl.length arc, .slice aa an.length ac] 27)) u → Below w.heap.size w u) := Lib.hid (fun u y => (HB.out u y).2)
  clear HB HL
  go_loopw [3] (fun i wr => ∃ k : Nat, k ≤ an.length ∧ k ≤ 100 ∧ i = .int .i64 (k : Int) ∧ Hid ((an.take k).all liN = true) ∧ Hid ((wr.cell? ⟨w.heap.size, 0, none⟩ = some (.slice ara arl.length arc) ∧ wr.cell? ⟨w.heap.size, 1, none⟩ = some (.slice aa an.length ac)) ∧ Below w.heap.size w wr)) (fun i _ => 100 - (intOf i).toNat)
  case atStart => exact ⟨0, Nat.zero_le _, by omega, rfl, Lib.hid rfl, H1⟩
  case round =>
    clear H1
    obtain ⟨k, hk, hk100, rfl, HK, HW⟩ := hrel
    obtain ⟨⟨c0, c1⟩, _⟩ := HW.out
    have hki : (k : Int) ≤ 100 := by omega
    by_cases hlt : k < an.length
    · have hlti : (k : Int) < (an.length : Int) := by omega
      by_cases h100 : k < 100
      · have h100i : (k : Int) < 100 := by omega
        obtain ⟨g1, o1, rfl, hg1, e1⟩ := (HA.out.below HW.out.2).2.1.elem NArg.len (by omega) (List.getElem?_eq_getElem hlt)
        have e1_0 := e1 0 _ rfl
        have e1_1 := e1 1 _ rfl
        rw [Nat.add_zero] at e1_0
        unfold IArg.val at e1_0 e1_1
        have HX := Lib.hid (HA.out.2.2.1 an[k] (List.getElem_mem hlt))
        have HN : Hid (liN an[k] = false → t = false) := Lib.hid (fun q => by
          have hl : k < (an.take 100).length := by rw [List.length_take]; omega
          rw [HT.out, all_no hl (by rw [List.getElem_take]; exact q), Bool.and_false])
        have HY : Hid (liN an[k] = true → (an.take (k + 1)).all liN = true) := Lib.hid (fun q => all_next hlt HK.out q)
        clear e1 HA HK HT
        generalize an[k] = x at *
        obtain ⟨⟨sa, sl, sc⟩, ⟨xa, xl, xc⟩⟩ := x
        dsimp only at *
        have hsm : sl.length ≤ maxLen := HX.out.1.2.2
        have hxm : xl.length ≤ maxLen := HX.out.2.2.2
        unfold maxLen at hsm hxm
        clear HX
        by_cases hs : sl.length ≤ 30
        · by_cases hw : xl.length ≤ 60
          · have hsi : (sl.length : Int) ≤ 30 := by omega
            have hwi : (xl.length : Int) ≤ 60 := by omega
            have HZ := Lib.hid (HY.out (decide_eq_true ⟨hs, hw⟩))
            clear HN HY hs hw
            go_wp2_with fail
            exact ⟨⟨k + 1, by omega, by omega, by go_num, HZ, HW⟩, by simp [intOf]; omega⟩
          · have hsi : (sl.length : Int) ≤ 30 := by omega
            have hwi : (60 : Int) < (xl.length : Int) := by omega
            have htf : t = false := HN.out (decide_eq_false (fun q => hw q.2))
            subst htf
            clear HN HY hs hw
            go_wp2_with fail
            go_ret
            exact ⟨rfl, HW.out.2⟩
        · have hsi : (30 : Int) < (sl.length : Int) := by omega
          have htf : t = false := HN.out (decide_eq_false (fun q => hs q.1))
          subst htf
          clear HN HY hs
          go_wp2_with fail
          go_ret
          exact ⟨rfl, HW.out.2⟩
      · obtain rfl : k = 100 := by omega
        have h60 : (60 : Int) < (an.length : Int) := by omega
        have htf : t = false := by rw [HT.out, decide_eq_false (fun q => absurd q.1 (by omega)), Bool.false_and]
        subst htf
        go_wp2_with fail
        go_ret
        exact ⟨rfl, HW.out.2⟩
    · obtain rfl : k = an.length := by omega
      have hnlt : ¬ (an.length : Int) < (an.length : Int) := by omega
      have HU : Hid (t = decide (an.length ≤ 60 ∧ arl.length ≤ 20)) := Lib.hid (by
        have h1 := HK.out
        rw [List.take_length] at h1
        rw [HT.out, List.take_of_length_le hk100, h1, Bool.and_true])
      by_cases h60 : an.length ≤ 60
      · have h60i : (an.length : Int) ≤ 60 := by omega
        by_cases h20 : arl.length ≤ 20
        · have h20i : (arl.length : Int) ≤ 20 := by omega
          obtain rfl : t = true := by rw [HU.out, decide_eq_true ⟨h60, h20⟩]
          go_wp2_with fail
          go_ret
          exact ⟨rfl, HW.out.2⟩
        · have h20i : ¬ (arl.length : Int) ≤ 20 := by omega
          obtain rfl : t = false := by rw [HU.out, decide_eq_false (fun q => h20 q.2)]
          go_wp2_with fail
          go_ret
          exact ⟨rfl, HW.out.2⟩
      · have h60i : (60 : Int) < (an.length : Int) := by omega
        obtain rfl : t = false := by rw [HU.out, decide_eq_false (fun q => h60 q.1)]
        go_wp2_with fail
        go_ret
        exact ⟨rfl, HW.out.2⟩
theorem and32_range (x : Int) : ∃ r : Nat, (r : Int) ≤ 4294967295 ∧ bits BinOp.and IntKind.i64 x 4294967295 = (r : Int) := by
  show ∃ r : Nat, (r : Int) ≤ 4294967295 ∧ IntKind.i64.wrap ((BitVec.ofInt 64 x &&& BitVec.ofInt 64 4294967295).toNat : Int) = (r : Int)
  have h3 : (BitVec.ofInt 64 x &&& BitVec.ofInt 64 4294967295).toNat ≤ 4294967295 := by
    rw [BitVec.toNat_and]
    exact Nat.and_le_right
  refine ⟨(BitVec.ofInt 64 x &&& BitVec.ofInt 64 4294967295).toNat, by omega, ?_⟩
  generalize (BitVec.ofInt 64 x &&& BitVec.ofInt 64 4294967295).toNat = r at *
  rw [IntKind.wrap_i64]
  omega
section
variable {w : World}
set_option maxRecDepth 100000 in
set_option maxHeartbeats 8000000 in
theorem eight_is (A : GArg) (hA : A.At w) (hn : A.n.length ≤ 60) : Calls Tryz.prog 22 #[A.val] w fun e w' => ∃ G : GArg, e = .returned G.val ∧ G.At w' ∧ Below w.heap.size w w' := by
  obtain ⟨i0, hi, hz0, hz1, hz2⟩ := info_parts (show (Tryz.prog.info? 3).map (fun i => (i.zero, i.size, i.bytes)) = some (some (.int .i64 0), 1, 8) by kernel_rfl)
  have HI := Lib.hid (And.intro hi (And.intro hz0 (And.intro hz1 hz2)))
  clear hi hz0 hz1 hz2
  obtain ⟨iN, ni, nz0, nz1, nz2⟩ := info_parts (show (Tryz.prog.info? 61).map (fun i => (i.zero, i.size, i.bytes)) = some (some (.agg #[.slice none 0 0, .slice none 0 0]), 2, 48) by kernel_rfl)
  have HIN := Lib.hid (And.intro ni (And.intro nz0 (And.intro nz1 nz2)))
  clear ni nz0 nz1 nz2
  have HA := Lib.hid hA
  have hrl : A.r.l.length ≤ maxLen := hA.1.2.2
  obtain ⟨⟨ara, arl, arc⟩, aa, an, ac⟩ := A
  dsimp only at hrl hn
  unfold maxLen at hrl
  have HB := Lib.hid (gbox w (.slice ara arl.length arc) (.slice aa an.length ac))
  have hsz : (w.alloc (.cells #[.slice ara arl.length arc, .slice aa an.length ac] 27)).heap.size = w.heap.size + 1 := by simp
  have H0 := Ei1.start (w.alloc (.cells #[.slice ara arl.length arc, .slice aa an.length ac] 27))
  rw [hsz] at H0
  have H0 := Lib.hid H0
  have HPl := Lib.hid (fun v => eplace_is v an.length (by omega))
  have hni : (an.length : Int) ≤ 60 := by omega
  have HQ : ∃ Q : Ending → World → Prop, Q = fun e w' => ∃ G : GArg, e = .returned G.val ∧ G.At w' ∧ Below w.heap.size w w' := ⟨_, rfl⟩
  obtain ⟨Q, hQ⟩ := HQ
  rw [← hQ]
  have HQ := Lib.hid hQ
  clear hA hQ hsz
  unfold GArg.val IArg.val
  go_enter Tryz.func22, Tryz.ntmps22
  have hmk := mkEight
  go_upto_block 0 with fail
  generalize ((((w.alloc (.cells #[.slice ara arl.length arc, .slice aa an.length ac] 27)).alloc (.cells #[.slice none 0 0, .slice none 0 0] 27)).alloc (.cells #[.int .i64 0, .int .i64 0, .int .i64 0, .int .i64 0, .int .i64 0, .int .i64 0, .int .i64 0, .int .i64 0] 3)).alloc (.cells #[.slice (some ⟨w.heap.size + 1 + 1, 0, none⟩) 8 8, .slice none 0 0] 27)) = u4 at *
  generalize w.alloc (.cells #[.slice ara arl.length arc, .slice aa an.length ac] 27) = w1 at *
  generalize w.heap.size + 1 + 1 + 1 = q at *
  generalize w.heap.size + 1 + 1 = gr at *
  generalize w.heap.size + 1 = rb at *
  have HRb := Lib.hid H0.out.2.1
  go_cut [5] from 15 to 36 (fun _ wx => Hid (∃ R, (∀ z ∈ R, (Lit.int .i64 z).wf = true) ∧ Ei1 w1 rb gr q R wx))
  case first =>
    clear HQ HRb
    go_wp2_with fail
    go_loopw [5] (fun i wr => ∃ (k : Nat) (R : List Int), k ≤ arl.length ∧ k ≤ 8 ∧ i = .int .i64 (k : Int) ∧ Hid (∀ z ∈ R, (Lit.int .i64 z).wf = true) ∧ Hid (Ei1 w1 rb gr q R wr)) (fun i _ => 8 - (intOf i).toNat)
    case atStart => exact ⟨0, _, Nat.zero_le _, by omega, rfl, Lib.hid (fun z hz => by simp at hz; subst hz; decide), H0⟩
    case round =>
      clear H0
      obtain ⟨k, R, hk, hk8, rfl, HR, HS⟩ := hrel
      obtain ⟨⟨c0, c1⟩, hbw⟩ := HB.out _ HS.out.b
      have hki : (k : Int) ≤ 8 := by omega
      by_cases hlt : k < arl.length
      · have hlti : (k : Int) < (arl.length : Int) := by omega
        by_cases h8 : k < 8
        · have h8i : (k : Int) < 8 := by omega
          obtain ⟨g2, o2, e9, hg2, e2⟩ := num_lies HA.out.1.1 hlt
          obtain rfl : ara = some ⟨g2, o2, none⟩ := e9
          dsimp only at e2
          have e3 := (hbw.cell (p := ⟨g2, o2 + k, none⟩) hg2).trans e2
          obtain ⟨r, hr, hP⟩ := HPl.out (arl.getD k 0)
          have HP := Lib.hid hP
          obtain ⟨x0, x0f⟩ := HS.out.arr h8
          have q0 := HS.out.1.2.q0
          have HS2 := Lib.hid (HS.out.put k (r : Int))
          have HR2 : Hid (∀ z ∈ R.set k (r : Int), (Lit.int .i64 z).wf = true) := Lib.hid (fun z hz => by
            rcases List.mem_or_eq_of_mem_set hz with hz | rfl
            · exact HR.out z hz
            · exact wf_small (by omega) (by omega))
          clear hP e2 hbw HR HA HPl HB
          generalize arl.getD k 0 = y at *
          generalize R.getD k 0 = y0 at *
          go_wp2_with fail
          go_region_with (go_at_call 49; refine (HP.out _).mono ?_; rintro e' w2 ⟨rfl, hw⟩; first | (obtain rfl : wr = w2 := hw.symm) | subst hw)
          all_goals
            go_wp2_with fail
            exact ⟨⟨k + 1, _, by omega, by omega, by go_num, HR2, by first | exact HS2 | exact Lib.hid (HS2.out.below (Below.refl _ _).drew)⟩, by simp [intOf]; omega⟩
        · obtain rfl : k = 8 := by omega
          go_wp2_with fail
          go_meet
          exact Lib.hid ⟨R, HR.out, HS.out⟩
      · obtain rfl : k = arl.length := by omega
        have hnlt : ¬ (arl.length : Int) < (arl.length : Int) := by omega
        go_wp2_with fail
        go_meet
        exact Lib.hid ⟨R, HR.out, HS.out⟩
  case rest =>
    obtain ⟨R, hR, h1⟩ := hcut.out
    have H2 := Lib.hid (h1.done hR)
    clear H0 hcut h1 hR
    generalize (⟨some ⟨gr, 0, none⟩, R, 8⟩ : IArg) = rr at *
    go_upto_block 2 with fail
    go_wp2_with fail
    go_loopw [6] (fun i wr => ∃ (k : Nat) (vN : Value) (NL : List NArg), k ≤ an.length ∧ NL.length = k ∧ i = .int .i64 (k : Int) ∧ Hid (Ei2 w1 rb q rr vN NL wr)) (fun i _ => 60 - (intOf i).toNat)
    case atStart => exact ⟨0, _, [], Nat.zero_le _, rfl, rfl, H2⟩
    case round =>
      clear H2
      obtain ⟨k, vN, NL, hk, hNL, rfl, H2⟩ := hrel
      by_cases hlt : k < an.length
      · have hlti : (k : Int) < (an.length : Int) := by omega
        obtain ⟨g1, o1, rfl, hg1, e1⟩ := HA.out.2.1.elem NArg.len (by omega) (List.getElem?_eq_getElem hlt)
        have e1_0 := e1 0 _ rfl
        have e1_1 := e1 1 _ rfl
        rw [Nat.add_zero] at e1_0
        unfold IArg.val at e1_0 e1_1
        have HX := Lib.hid (HA.out.2.2.1 an[k] (List.getElem_mem hlt))
        clear e1 HA
        generalize an[k] = x at *
        obtain ⟨⟨sa, sl, sc⟩, ⟨xa, xl, xc⟩⟩ := x
        dsimp only at *
        have hsm : sl.length ≤ maxLen := HX.out.1.2.2
        have hxm : xl.length ≤ maxLen := HX.out.2.2.2
        unfold maxLen at hsm hxm
        have HD : Hid (∀ u, Below w1.heap.size w1 u → (u.cell? ⟨w.heap.size, 0, none⟩ = some (.slice ara arl.length arc) ∧ u.cell? ⟨w.heap.size, 1, none⟩ = some (.slice (some ⟨g1, o1, none⟩) an.length ac)) ∧ u.cell? ⟨g1, o1 + k * 2, none⟩ = some (.slice sa sl.length sc) ∧ u.cell? ⟨g1, o1 + k * 2 + 1, none⟩ = some (.slice xa xl.length xc) ∧ Below w.heap.size w u) := Lib.hid (fun u y => ⟨(HB.out u y).1, ((HB.out u y).2.cell (p := ⟨g1, o1 + k * 2, none⟩) hg1).trans e1_0, ((HB.out u y).2.cell (p := ⟨g1, o1 + k * 2 + 1, none⟩) hg1).trans e1_1, (HB.out u y).2⟩)
        clear e1_0 e1_1
        go_upto_block 4 with fail
        have H3 := Lib.hid (H2.out.box 61)
        generalize wr.alloc (.cells #[.slice none 0 0, .slice none 0 0] 61) = w3 at *
        generalize wr.heap.size = xb at *
        go_cut [8] from 37 to 108 (fun _ wx => Hid (∃ vS T, (∀ z ∈ T, (Lit.int .i64 z).wf = true) ∧ T.length ≤ 15 ∧ Ei3 w1 rb q xb rr vN NL vS T (.slice none 0 0) [] wx))
        case first =>
          clear HQ HRb H2
          go_wp2_with fail
          go_loopw [8] (fun i wr => ∃ (j : Nat) (vS : Value) (T : List Int), j ≤ sl.length ∧ j ≤ 15 ∧ T.length = j ∧ i = .int .i64 (j : Int) ∧ Hid (∀ z ∈ T, (Lit.int .i64 z).wf = true) ∧ Hid (Ei3 w1 rb q xb rr vN NL vS T (.slice none 0 0) [] wr)) (fun i _ => 15 - (intOf i).toNat)
          case atStart => exact ⟨0, _, [], Nat.zero_le _, by omega, rfl, rfl, Lib.hid (fun z hz => by cases hz), H3⟩
          case round =>
            clear H3
            obtain ⟨j, vS, T, hj, hj15, hT, rfl, HW, H3⟩ := hrel
            obtain ⟨⟨c0, c1⟩, d0, _, hbw⟩ := HD.out _ H3.out.b
            have hji : (j : Int) ≤ 15 := by omega
            by_cases hjl : j < sl.length
            · have hjli : (j : Int) < (sl.length : Int) := by omega
              by_cases h15 : j < 15
              · have h15i : (j : Int) < 15 := by omega
                obtain ⟨g2, o2, e9, hg2, e2⟩ := num_lies HX.out.1.1 hjl
                obtain rfl : sa = some ⟨g2, o2, none⟩ := e9
                dsimp only at e2
                have e3 := (hbw.cell (p := ⟨g2, o2 + j, none⟩) hg2).trans e2
                obtain ⟨r, hr, hP⟩ := HPl.out (sl.getD j 0)
                have HP := Lib.hid hP
                obtain ⟨x0, x0f, _, _⟩ := H3.out.cells
                have HW2 : Hid (∀ z ∈ T ++ [(r : Int)], (Lit.int .i64 z).wf = true) := Lib.hid (fun z hz => by
                  rcases List.mem_append.1 hz with hz | hz
                  · exact HW.out z hz
                  · rw [List.mem_singleton.1 hz]
                    exact wf_small (by omega) (by omega))
                have hA1 : T.length + 1 ≤ maxLen := by unfold maxLen; omega
                have hA2 : (T.length + 1) * 8 ≤ 140737488355328 := by omega
                have HTl := Lib.hid hT
                have hbs := H3.out.b.size
                obtain ⟨hx1, hx2, _⟩ := H3.out.sep
                have HSp := Lib.hid (And.intro hx1 hx2)
                have hxo : ∀ o : Obj, (wr.alloc o).cell? ⟨xb, 0, none⟩ = some vS := fun o => (((Below.refl wr.heap.size wr).alloc (Nat.le_refl _) o).cell (p := ⟨xb, 0, none⟩) hx1).trans x0
                clear hP e2 hbw HW HD HX HPl HB hx1 hx2 hT
                generalize sl.getD j 0 = y at *
                go_wp2_with fail
                go_region_law (first
                  | (refine step_append_lies _ rfl (.tmp 58) (.tmp 70) 24 rfl w1.heap.size 3 i0 _ 1 8 Tryz.underlying24 HI.out.1 HI.out.2.1 HI.out.2.2.1 HI.out.2.2.2 (by rfl) (by decide) vS T.length (vals T) rfl (by first | exact H3.out.rows.1.alloc _ | exact (H3.out.rows.1.alloc _).drew | exact (own_below H3.out.rows.1 (Below.refl _ _).drew).alloc _ | exact (H3.out.rows.1.alloc _).drew.drew) _ 1 1 [.int .i64 (r : Int)] rfl rfl (by exact World.news_of_block (heap_alloc_last _ _)) (by intro u hu; simp at hu; rw [hu]; rfl) (by decide) hA1 hA2 (Nat.le_trans hbs (by simp)) _ rfl ?_
                     intro g5 cap w5 hown5 hgr5 hat5 hlt5
                     obtain ⟨e5, f5⟩ := grown_cell (u := wr) (by first | exact (Below.refl _ _).alloc (Nat.le_refl _) _ | exact ((Below.refl _ _).alloc (Nat.le_refl _) _).drew | exact (Below.refl _ _).drew.alloc (by simp) _ | exact ((Below.refl _ _).alloc (Nat.le_refl _) _).drew.drew) hgr5 HSp.out.1 HSp.out.2 0
                     have x5 := e5.trans x0
                     have xf5 := f5.trans x0f
                     have H4 := Lib.hid (H3.out.slot (by first | exact (Below.refl _ _).alloc (Nat.le_refl _) _ | exact ((Below.refl _ _).alloc (Nat.le_refl _) _).drew | exact (Below.refl _ _).drew.alloc (by simp) _ | exact ((Below.refl _ _).alloc (Nat.le_refl _) _).drew.drew) rfl hown5 hgr5 hat5)
                     clear hown5 hgr5 hat5 hlt5 e5 f5)
                  | (go_simp
                     go_at_call 49
                     refine (HP.out _).mono ?_
                     rintro e' w2 ⟨rfl, hw⟩
                     first
                       | (obtain rfl : wr = w2 := hw.symm)
                       | subst hw))
                all_goals
                  go_wp2_with fail
                  exact ⟨⟨j + 1, _, T ++ [(r : Int)], by omega, by omega, by rw [List.length_append, HTl.out]; rfl, by go_num, HW2, H4⟩, by simp [intOf]; omega⟩
              · obtain rfl : j = 15 := by omega
                go_wp2_with fail
                go_meet
                exact Lib.hid ⟨vS, T, HW.out, by omega, H3.out⟩
            · obtain rfl : j = sl.length := by omega
              have hnlt : ¬ (sl.length : Int) < (sl.length : Int) := by omega
              go_wp2_with fail
              go_meet
              exact Lib.hid ⟨vS, T, HW.out, by omega, H3.out⟩
        case rest =>
          obtain ⟨vS, T, hTw, hT15, h4⟩ := hcut.out
          have HTw := Lib.hid hTw
          have H4 := Lib.hid h4
          clear hcut h4 hTw H3
          go_upto_block 6 with fail
          go_cut [9] from 37 to 108 (fun _ wx => Hid (∃ vW Tw, (∀ z ∈ Tw, (Lit.int .i64 z).wf = true) ∧ Tw.length ≤ 30 ∧ Ei3 w1 rb q xb rr vN NL vS T vW Tw wx))
          case first =>
            clear HQ HRb H2 HTw hT15 HPl
            go_wp2_with fail
            go_loopw [9] (fun i wr => ∃ (j : Nat) (vW : Value) (Tw : List Int), j ≤ xl.length ∧ j ≤ 30 ∧ Tw.length = j ∧ i = .int .i64 (j : Int) ∧ Hid (∀ z ∈ Tw, (Lit.int .i64 z).wf = true) ∧ Hid (Ei3 w1 rb q xb rr vN NL vS T vW Tw wr)) (fun i _ => 30 - (intOf i).toNat)
            case atStart => exact ⟨0, _, [], Nat.zero_le _, by omega, rfl, rfl, Lib.hid (fun z hz => by cases hz), H4⟩
            case round =>
              clear H4
              obtain ⟨j, vW, Tw, hj, hj30, hT, rfl, HW, H4⟩ := hrel
              obtain ⟨⟨c0, c1⟩, _, d1, hbw⟩ := HD.out _ H4.out.b
              have hji : (j : Int) ≤ 30 := by omega
              by_cases hjl : j < xl.length
              · have hjli : (j : Int) < (xl.length : Int) := by omega
                by_cases h30 : j < 30
                · have h30i : (j : Int) < 30 := by omega
                  obtain ⟨g2, o2, e9, hg2, e2⟩ := num_lies HX.out.2.1 hjl
                  obtain rfl : xa = some ⟨g2, o2, none⟩ := e9
                  dsimp only at e2
                  have e3 := (hbw.cell (p := ⟨g2, o2 + j, none⟩) hg2).trans e2
                  obtain ⟨r, hr, er⟩ := and32_range (xl.getD j 0)
                  obtain ⟨_, _, x0, x0f⟩ := H4.out.cells
                  have HW2 : Hid (∀ z ∈ Tw ++ [(r : Int)], (Lit.int .i64 z).wf = true) := Lib.hid (fun z hz => by
                    rcases List.mem_append.1 hz with hz | hz
                    · exact HW.out z hz
                    · rw [List.mem_singleton.1 hz]
                      exact wf_small (by omega) (by omega))
                  have hA1 : Tw.length + 1 ≤ maxLen := by unfold maxLen; omega
                  have hA2 : (Tw.length + 1) * 8 ≤ 140737488355328 := by omega
                  have HTl := Lib.hid hT
                  have hbs := H4.out.b.size
                  obtain ⟨hx1, _, hx2⟩ := H4.out.sep
                  have HSp := Lib.hid (And.intro hx1 hx2)
                  have hxo : ∀ o : Obj, (wr.alloc o).cell? ⟨xb, 1, none⟩ = some vW := fun o => (((Below.refl wr.heap.size wr).alloc (Nat.le_refl _) o).cell (p := ⟨xb, 1, none⟩) hx1).trans x0
                  clear e2 hbw HW HD HX HB hx1 hx2 hT
                  generalize xl.getD j 0 = y at *
                  go_wp2_with fail
                  go_region_law (first
                    | (refine step_append_lies _ rfl (.tmp 89) (.tmp 100) 24 rfl w1.heap.size 3 i0 _ 1 8 Tryz.underlying24 HI.out.1 HI.out.2.1 HI.out.2.2.1 HI.out.2.2.2 (by rfl) (by decide) vW Tw.length (vals Tw) rfl (by first | exact H4.out.rows.2.alloc _ | exact (H4.out.rows.2.alloc _).drew | exact (own_below H4.out.rows.2 (Below.refl _ _).drew).alloc _ | exact (H4.out.rows.2.alloc _).drew.drew) _ 1 1 [.int .i64 (r : Int)] rfl rfl (by exact World.news_of_block (heap_alloc_last _ _)) (by intro u hu; simp at hu; rw [hu]; rfl) (by decide) hA1 hA2 (Nat.le_trans hbs (by simp)) _ rfl ?_
                       intro g5 cap w5 hown5 hgr5 hat5 hlt5
                       obtain ⟨e5, f5⟩ := grown_cell (u := wr) (by first | exact (Below.refl _ _).alloc (Nat.le_refl _) _ | exact ((Below.refl _ _).alloc (Nat.le_refl _) _).drew | exact (Below.refl _ _).drew.alloc (by simp) _ | exact ((Below.refl _ _).alloc (Nat.le_refl _) _).drew.drew) hgr5 HSp.out.1 HSp.out.2 1
                       have x5 := e5.trans x0
                       have xf5 := f5.trans x0f
                       have H5 := Lib.hid (H4.out.word (by first | exact (Below.refl _ _).alloc (Nat.le_refl _) _ | exact ((Below.refl _ _).alloc (Nat.le_refl _) _).drew | exact (Below.refl _ _).drew.alloc (by simp) _ | exact ((Below.refl _ _).alloc (Nat.le_refl _) _).drew.drew) rfl hown5 hgr5 hat5)
                       clear hown5 hgr5 hat5 hlt5 e5 f5))
                  all_goals
                    go_wp2_with fail
                    exact ⟨⟨j + 1, _, Tw ++ [(r : Int)], by omega, by omega, by rw [List.length_append, HTl.out]; rfl, by go_num, HW2, H5⟩, by simp [intOf]; omega⟩
                · obtain rfl : j = 30 := by omega
                  go_wp2_with fail
                  go_meet
                  exact Lib.hid ⟨vW, Tw, HW.out, by omega, H4.out⟩
              · obtain rfl : j = xl.length := by omega
                have hnlt : ¬ (xl.length : Int) < (xl.length : Int) := by omega
                go_wp2_with fail
                go_meet
                exact Lib.hid ⟨vW, Tw, HW.out, by omega, H4.out⟩
          case rest =>
            obtain ⟨vW, Tw, hW, hW30, h5⟩ := hcut.out
            obtain ⟨z, rfl, rfl, hpush⟩ := h5.push HTw.out hW (by unfold maxLen; omega) (by unfold maxLen; omega)
            have HPu := Lib.hid (fun (u1 u2 : World) => @hpush u1 u2)
            obtain ⟨xc0, _, xc1, _⟩ := h5.cells
            obtain ⟨ql, qn, q0, qc, qf, oN⟩ := h5.parts
            have HON := Lib.hid (And.intro oN (And.intro ql qn))
            have hbN := h5.b.size
            have hN1 : NL.length + 1 ≤ maxLen := by unfold maxLen; omega
            have hN2 : (NL.length + 1) * 48 ≤ 140737488355328 := by omega
            have HNL := Lib.hid hNL
            clear hcut h5 hpush oN ql qn q0 H4 HD HX HPl HTw hW hNL H2
            unfold IArg.val at xc0 xc1
            go_wp2_with (first
              | (refine wpList_append_lies _ rfl (.tmp 104) (.tmp 106) 25 rfl w1.heap.size 61 iN _ 2 48 Tryz.underlying25 HIN.out.1 HIN.out.2.1 HIN.out.2.2.1 HIN.out.2.2.2 rfl (by decide) vN NL.length (flat NArg.cells NL) rfl (HON.out.1.alloc _) _ 1 1 z.cells rfl rfl (by exact World.news_of_block (heap_alloc_last _ _)) (by intro u hu; simp [NArg.cells, IArg.val] at hu; rcases hu with rfl | rfl <;> rfl) (by decide) hN1 hN2 (Nat.le_trans hbN (by simp)) _ rfl ?_
                 intro g6 cap6 w7 hown6 hgr6 hat6 hlt6
                 have HP := Lib.hid (HPu.out _ _ ((Below.refl wc.heap.size wc).alloc (Nat.le_refl _) _) rfl hown6 hgr6 hat6)
                 obtain ⟨e7, f7⟩ := grown_cell ((Below.refl wc.heap.size wc).alloc (Nat.le_refl _) _) hgr6 HON.out.2.1 HON.out.2.2 1
                 have x7 := e7.trans qc
                 have xf7 := f7.trans qf
                 clear hown6 hgr6 hat6 hlt6 e7 f7))
            exact ⟨⟨k + 1, _, NL ++ [z], by omega, by rw [List.length_append, HNL.out]; rfl, by go_num, HP⟩, by simp [intOf]; omega⟩
      · obtain rfl : k = an.length := by omega
        have hnlt : ¬ (an.length : Int) < (an.length : Int) := by omega
        obtain ⟨_, _, q0, q1, _, oN⟩ := H2.out.parts
        obtain ⟨na, nc, rfl⟩ := owns_slice oN
        obtain ⟨hrb, hG⟩ := H2.out.told HRb.out (by unfold maxLen; omega)
        have HT := Lib.hid (And.intro hrb.two hG)
        obtain ⟨⟨_, r0, r1, s0, s1⟩, _⟩ := HT.out
        have HZ : Hid (∀ (G : GArg) u', G.val = .agg #[rr.val, .slice na NL.length nc] → G.At u' → Below w1.heap.size w1 u' → Q (.returned (.agg #[rr.val, .slice na NL.length nc])) u') := Lib.hid (fun G u' g1 g2 g3 => by
          rw [HQ.out]
          exact ⟨G, by rw [g1], g2, (HB.out u' g3).2⟩)
        clear hG hrb oN HB HQ HA HPl hNL
        unfold IArg.val at *
        go_wp2_with fail
        refine bodyPost_ret (results_cell1 rfl rfl (HT.out.1.set2 _ _).load) rfl ?_
        obtain ⟨G, g1, g2, g3⟩ := HT.out.2 _ _
        exact HZ.out G _ g1 g2 g3
end
end Go.Proofs.YtbghglkplbnnkaaGreatDoor
