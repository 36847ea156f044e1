/- Memory: which blocks a call may turn; rows of cells; package sector's Disk as data, and what it is in memory. Plain lemmas: no call. -/
import Derived.Test.YtbcdmcafobjpcaaGreatDoorProg
import Derived.WalkKit
import Derived.Handy
import Derived.Deep.MidRow
import Derived.Deep.LoopGhost
import Derived.Lib.Hide
namespace Go.Proofs.YtbcdmcafobjpcaaGreatDoor.Sec
open Go.RowKit

/-- Of what was there only the blocks F may have turned. -/
structure Only (F : Nat → Prop) (w w' : World) : Prop where
  os : w'.os = w.os
  tape : w'.tape = w.tape
  output : w'.output = w.output
  size : w.heap.size ≤ w'.heap.size
  block : ∀ k, k < w.heap.size → ¬ F k → w'.heap[k]? = w.heap[k]?

theorem Only.refl (F : Nat → Prop) (w : World) : Only F w w := ⟨rfl, rfl, rfl, Nat.le_refl _, fun _ _ _ => rfl⟩
theorem Only.trans {F G : Nat → Prop} {a b c : World} (h : Only F a b) (k : Only G b c) (hG : ∀ i, i < a.heap.size → G i → F i) : Only F a c :=
  ⟨k.os.trans h.os, k.tape.trans h.tape, k.output.trans h.output, Nat.le_trans h.size k.size,
    fun i hi hF => (k.block i (Nat.lt_of_lt_of_le hi h.size) (fun g => hF (hG i hi g))).trans (h.block i hi hF)⟩
theorem Only.mono {F G : Nat → Prop} {a b : World} (h : Only F a b) (hG : ∀ i, i < a.heap.size → F i → G i) : Only G a b :=
  ⟨h.os, h.tape, h.output, h.size, fun i hi hF => h.block i hi (fun f => hF (hG i hi f))⟩
theorem Only.drew {F : Nat → Prop} {a w : World} (h : Only F a w) : Only F a w.drew := ⟨h.os, h.tape, h.output, h.size, h.block⟩
theorem Only.alloc {F : Nat → Prop} {a w : World} (h : Only F a w) (o : Obj) : Only F a (w.alloc o) :=
  ⟨h.os, h.tape, h.output, by have := h.size; simp; omega, fun k hk hF => by have := h.size; rw [Below.heap_alloc _ _ _ (by omega)]; exact h.block k hk hF⟩
theorem Only.setCell {F : Nat → Prop} {a w : World} (h : Only F a w) {p : Addr} (hp : F p.block ∨ a.heap.size ≤ p.block) (u : Value) : Only F a (w.setCell p u) :=
  ⟨h.os, h.tape, h.output, by have := h.size; simp [World.setCell]; omega, fun k hk hF => by
    rw [Below.heap_setCell _ _ _ _ (fun e => by rcases hp with hp | hp; exact hF (e ▸ hp); omega)]; exact h.block k hk hF⟩
theorem Only.setCells {F : Nat → Prop} {a : World} {b : Nat} (hp : F b ∨ a.heap.size ≤ b) : ∀ (vs : List Value) (o : Nat) {w : World}, Only F a w → Only F a (w.setCells b o vs)
  | [], _, _, h => h
  | v :: r, o, _, h => Only.setCells hp r (o + 1) (h.setCell (p := ⟨b, o, none⟩) hp v)
theorem Only.grown {F : Nat → Prop} {a w w' : World} {row : Option Nat} (h : Only F a w) (hg : w.grownBy w' row) (hr : ∀ k, row = some k → F k ∨ a.heap.size ≤ k) : Only F a w' :=
  ⟨hg.os.trans h.os, hg.tape.trans h.tape, hg.output.trans h.output, Nat.le_trans h.size hg.size, fun k hk hF =>
    (hg.block k (Nat.lt_of_lt_of_le hk h.size) (fun e => by rcases hr k e.symm with r | r; exact hF r; omega)).trans (h.block k hk hF)⟩
theorem Only.below {F : Nat → Prop} {w w' : World} (h : Only F w w') {B : Nat} (hF : ∀ k, F k → B ≤ k) (hB : B ≤ w.heap.size) : Below B w w' :=
  ⟨h.os, h.tape, h.output, h.size, fun k hk => h.block k (by omega) (fun f => by have := hF k f; omega)⟩
theorem Only.of_below {B : Nat} {w w' : World} (h : Below B w w') : Only (fun k => B ≤ k) w w' :=
  ⟨h.os, h.tape, h.output, h.size, fun k _ hF => h.block k (by omega)⟩

/-- Equal rows of cells one behind the other from a block's beginning. -/
def Rows (w : World) (b k : Nat) (l : List (List Value)) : Prop := ∀ j x, l[j]? = some x → w.rangeAt b (j * k) x

theorem rangeAt_of_block {w w' : World} {b o : Nat} {cs : List Value} (hb : w'.heap[b]? = w.heap[b]?) (h : w.rangeAt b o cs) : w'.rangeAt b o cs :=
  fun j v hv => (World.cell?_of_block (w := w) (a := ⟨b, o + j, none⟩) hb).trans (h j v hv)
theorem there_of_block {w w' : World} {b o n : Nat} (hb : w'.heap[b]? = w.heap[b]?) (h : w.there b o n) : w'.there b o n :=
  fun j hj => ⟨by rw [World.cell?_of_block (w := w) (a := ⟨b, o + j, none⟩) hb]; exact (h j hj).1, by rw [World.frozen?_of_block (w := w) (a := ⟨b, o + j, none⟩) hb]; exact (h j hj).2⟩
theorem rows_of_block {w w' : World} {b k : Nat} {l : List (List Value)} (hb : w'.heap[b]? = w.heap[b]?) (h : Rows w b k l) : Rows w' b k l :=
  fun j x hx => rangeAt_of_block hb (h j x hx)

/-- One cell of a range is set. -/
theorem rangeAt_set {w : World} {b k : Nat} {cs : List Value} (h : w.rangeAt b 0 cs) (v : Value) : (w.setCell ⟨b, k, none⟩ v).rangeAt b 0 (cs.set k v) := fun j u hu => by
  simp only [List.getElem?_set] at hu
  split at hu
  · rename_i e
    subst e
    split at hu
    · rename_i hk
      obtain rfl : v = u := by simpa using hu
      have h0 := h k _ (List.getElem?_eq_getElem hk)
      simp only [Nat.zero_add] at h0 ⊢
      exact World.cell?_setCell_same _ _ _ h0
    · cases hu
  · rename_i e
    rw [World.cell?_setCell_other _ _ _ _ (by simp)]
    exact h j u hu
theorem there_set {w : World} {b o n : Nat} (h : w.there b o n) (p : Addr) (v : Value) : (w.setCell p v).there b o n := fun j hj => by
  obtain ⟨h1, h2⟩ := h j hj
  refine ⟨?_, by rw [World.frozen?_setCell]; exact h2⟩
  obtain ⟨u, hu⟩ := Option.isSome_iff_exists.1 h1
  by_cases e : p = ⟨b, o + j, none⟩
  · subst e; rw [World.cell?_setCell_same _ _ _ hu]; rfl
  · rw [World.cell?_setCell_other _ _ _ _ e, hu]; rfl

/-- One row is set. -/
theorem rows_set {w : World} {b k n : Nat} {l : List (List Value)} (h : Rows w b k l) (hl : ∀ x ∈ l, x.length = k) (ht : w.there b 0 (n * k)) (i : Nat) (hi : i < n) (vs : List Value) (hv : vs.length = k) :
    Rows (w.setCells b (i * k) vs) b k (l.set i vs) := fun j x hx => by
  have hst : w.there b (i * k) vs.length := fun m hm => by
    have : i * k + k ≤ n * k := by have := Nat.mul_le_mul_right k (show i + 1 ≤ n by omega); rw [Nat.add_mul] at this; omega
    have := ht (i * k + m) (by omega)
    simpa using this
  simp only [List.getElem?_set] at hx
  split at hx
  · rename_i e
    subst e
    split at hx
    · obtain rfl : vs = x := by simpa using hx
      exact World.rangeAt_setCells_same w b (i * k) vs hst
    · cases hx
  · rename_i e
    have hxl := hl x (List.mem_of_getElem? hx)
    refine World.rangeAt_setCells_apart (h j x hx) b (i * k) vs (.inr ?_)
    rw [hxl, hv]
    rcases Nat.lt_or_gt_of_ne e with e | e
    · right; have := Nat.mul_le_mul_right k (show i + 1 ≤ j by omega); rw [Nat.add_mul] at this; omega
    · left; have := Nat.mul_le_mul_right k (show j + 1 ≤ i by omega); rw [Nat.add_mul] at this; omega
/-- One row more. -/
theorem rows_snoc {w : World} {b k n : Nat} {l : List (List Value)} (h : Rows w b k l) (hl : ∀ x ∈ l, x.length = k) (ht : w.there b 0 (n * k)) (hi : l.length < n) (vs : List Value) (hv : vs.length = k) :
    Rows (w.setCells b (l.length * k) vs) b k (l ++ [vs]) := fun j x hx => by
  rcases Nat.lt_or_ge j l.length with hj | hj
  · rw [List.getElem?_append_left hj] at hx
    refine rows_set h hl ht l.length hi vs hv j x ?_
    rw [List.getElem?_set, if_neg (by omega)]
    exact hx
  · rw [List.getElem?_append_right hj] at hx
    have e : j = l.length := by
      rcases Nat.lt_or_ge (j - l.length) 1 with q | q
      · omega
      · rw [List.getElem?_eq_none (by simpa using q)] at hx; cases hx
    subst e
    obtain rfl : vs = x := by simpa using hx
    refine World.rangeAt_setCells_same w b _ vs fun m hm => ?_
    have : l.length * k + k ≤ n * k := by have := Nat.mul_le_mul_right k (show l.length + 1 ≤ n by omega); rw [Nat.add_mul] at this; omega
    have := ht (l.length * k + m) (by omega)
    simpa using this

/-- A disk, as data. -/
structure Dsk where
  on : Bool
  lasts : List ByteArray
  now : List ByteArray
  waits : List (Nat × ByteArray)
  deeds : Nat
  lit : Bool
  left : Nat
  keep : List Int

/-- A block's cells. -/
def bcells (b : ByteArray) : List Value := b.data.toList.map fun x => .int .u8 (x.toNat : Int)
/-- A waiting write's cells. -/
def wcells (x : Nat × ByteArray) : List Value := .int .i64 (x.1 : Int) :: bcells x.2
theorem bcells_len (b : ByteArray) : (bcells b).length = b.size := by simp [bcells]

/-- Where a disk lies: its struct, what lasts, what was written last, what waits, what was armed; capacities, bases. -/
structure Lay where
  p : Nat
  L : Nat
  N : Nat
  W : Nat
  K : Nat
  cL : Nat
  cN : Nat
  cW : Nat
  cK : Nat
  la : Option Addr
  na : Option Addr
  wa : Option Addr
  ka : Option Addr

/-- Its blocks. -/
def Lay.foot (y : Lay) (b : Nat) : Prop := b = y.p ∨ b = y.L ∨ b = y.N ∨ b = y.W ∨ b = y.K

/-- The struct's cells. -/
def headc (y : Lay) (D : Dsk) : List Value :=
  [.bool true, .bool D.on, .slice y.la D.lasts.length y.cL, .slice y.na D.now.length y.cN, .slice y.wa D.waits.length y.cW, .int .i64 (D.deeds : Int), .bool D.lit, .int .i64 (D.left : Int), .slice y.ka D.keep.length y.cK]

structure Head (w : World) (y : Lay) (D : Dsk) : Prop where
  rng : w.rangeAt y.p 0 (headc y D)
  thr : w.there y.p 0 9

structure Bod (w : World) (y : Lay) (D : Dsk) : Prop where
  rL : Rows w y.L 32 (D.lasts.map bcells)
  rN : Rows w y.N 32 (D.now.map bcells)
  oW : w.ownsRow 0 77 33 (.slice y.wa D.waits.length y.cW) D.waits.length (D.waits.flatMap wcells)
  tL : w.there y.L 0 (D.lasts.length * 32)
  tN : w.there y.N 0 (D.lasts.length * 32)
  rK : ∀ j z, D.keep[j]? = some z → w.cell? ⟨y.K, j, none⟩ = some (.int .i64 z)

structure Shp (y : Lay) (D : Dsk) : Prop where
  len : D.now.length = D.lasts.length
  most : D.lasts.length ≤ 3000
  blkL : ∀ b ∈ D.lasts, b.size = 32
  blkN : ∀ b ∈ D.now, b.size = 32
  blkW : ∀ x ∈ D.waits, x.2.size = 32 ∧ x.1 < D.lasts.length
  deedsB : D.deeds < 2 ^ 60
  leftB : D.left < 2 ^ 63
  waitsB : D.waits.length < 2 ^ 40
  capL : D.lasts.length ≤ y.cL
  capN : D.now.length ≤ y.cN
  capK : D.keep.length ≤ y.cK
  keepB : D.keep.length < 2 ^ 62
  laE : 0 < D.lasts.length → y.la = some ⟨y.L, 0, none⟩
  naE : 0 < D.lasts.length → y.na = some ⟨y.N, 0, none⟩
  waE : y.wa = none ∨ y.wa = some ⟨y.W, 0, none⟩
  kaE : 0 < D.keep.length → y.ka = some ⟨y.K, 0, none⟩
  nL : 0 < D.lasts.length → y.L ≠ y.p ∧ y.N ≠ y.p ∧ y.L ≠ y.N
  nW : y.wa ≠ none → y.W ≠ y.p ∧ y.W ≠ y.L ∧ y.W ≠ y.N
  nK : 0 < D.keep.length → y.K ≠ y.p ∧ y.K ≠ y.L ∧ y.K ≠ y.N ∧ (y.wa ≠ none → y.K ≠ y.W)

/-- WHAT A DISK IS IN MEMORY. -/
structure IsD (w : World) (y : Lay) (D : Dsk) : Prop where
  head : Head w y D
  bod : Bod w y D
  shp : Shp y D
  small : ∀ b, y.foot b → b < w.heap.size

section
variable {w w' : World} {y : Lay} {D : Dsk}
theorem Head.c0 (h : Head w y D) : w.cell? ⟨y.p, 0, none⟩ = some (.bool true) := by simpa using h.rng 0 _ rfl
theorem Head.c1 (h : Head w y D) : w.cell? ⟨y.p, 1, none⟩ = some (.bool D.on) := by simpa using h.rng 1 _ rfl
theorem Head.c2 (h : Head w y D) : w.cell? ⟨y.p, 2, none⟩ = some (.slice y.la D.lasts.length y.cL) := by simpa using h.rng 2 _ rfl
theorem Head.c3 (h : Head w y D) : w.cell? ⟨y.p, 3, none⟩ = some (.slice y.na D.now.length y.cN) := by simpa using h.rng 3 _ rfl
theorem Head.c4 (h : Head w y D) : w.cell? ⟨y.p, 4, none⟩ = some (.slice y.wa D.waits.length y.cW) := by simpa using h.rng 4 _ rfl
theorem Head.c5 (h : Head w y D) : w.cell? ⟨y.p, 5, none⟩ = some (.int .i64 (D.deeds : Int)) := by simpa using h.rng 5 _ rfl
theorem Head.c6 (h : Head w y D) : w.cell? ⟨y.p, 6, none⟩ = some (.bool D.lit) := by simpa using h.rng 6 _ rfl
theorem Head.c7 (h : Head w y D) : w.cell? ⟨y.p, 7, none⟩ = some (.int .i64 (D.left : Int)) := by simpa using h.rng 7 _ rfl
theorem Head.c8 (h : Head w y D) : w.cell? ⟨y.p, 8, none⟩ = some (.slice y.ka D.keep.length y.cK) := by simpa using h.rng 8 _ rfl
theorem Head.fz (h : Head w y D) (j : Nat) (hj : j < 9) : w.frozen? ⟨y.p, j, none⟩ = false := by simpa using (h.thr j hj).2
theorem Head.of_block (h : Head w y D) (hb : w'.heap[y.p]? = w.heap[y.p]?) : Head w' y D := ⟨rangeAt_of_block hb h.rng, there_of_block hb h.thr⟩

/-- The body stays where the blocks in use stay. -/
theorem Bod.of_blocks (h : Bod w y D) (s : Shp y D) (hL : 0 < D.lasts.length → w'.heap[y.L]? = w.heap[y.L]? ∧ w'.heap[y.N]? = w.heap[y.N]?) (hW : y.wa ≠ none → w'.heap[y.W]? = w.heap[y.W]?)
    (hK : 0 < D.keep.length → w'.heap[y.K]? = w.heap[y.K]?) : Bod w' y D where
  rL := fun j x hx => rangeAt_of_block (hL (by have := (List.getElem?_eq_some_iff.1 hx).1; simp at this; omega)).1 (h.rL j x hx)
  rN := fun j x hx => rangeAt_of_block (hL (by have := (List.getElem?_eq_some_iff.1 hx).1; have := s.len; simp at *; omega)).2 (h.rN j x hx)
  oW := by
    refine ⟨h.oW.1, ?_⟩
    rcases h.oW.2 with q | ⟨g, cap, cur, hv, hg, hh, r⟩
    · exact .inl q
    · have hwa : y.wa = some ⟨g, 0, none⟩ := by simpa using congrArg (fun v => match v with | .slice a _ _ => a | _ => none) hv
      have hne : y.wa ≠ none := by rw [hwa]; simp
      have hg' : g = y.W := by
        rcases s.waE with q | q
        · exact absurd q hne
        · rw [hwa] at q; simpa using q
      subst hg'
      exact .inr ⟨_, cap, cur, hv, hg, by rw [hW hne]; exact hh, r⟩
  tL := fun j hj => there_of_block (hL (by omega)).1 h.tL j hj
  tN := fun j hj => there_of_block (hL (by omega)).2 h.tN j hj
  rK := fun j z hz => by
    have hb := hK (by have := (List.getElem?_eq_some_iff.1 hz).1; omega)
    rw [World.cell?_of_block (w := w) (a := ⟨y.K, j, none⟩) hb]
    exact h.rK j z hz
/-- The struct alone was turned. -/
theorem Bod.off_p (h : Bod w y D) (s : Shp y D) (hb : ∀ b, b ≠ y.p → w'.heap[b]? = w.heap[b]?) : Bod w' y D :=
  h.of_blocks s (fun h0 => ⟨hb _ (s.nL h0).1, hb _ (s.nL h0).2.1⟩) (fun h0 => hb _ (s.nW h0).1) (fun h0 => hb _ (s.nK h0).1)
theorem IsD.of_blocks (h : IsD w y D) (hs : w.heap.size ≤ w'.heap.size) (hb : ∀ b, y.foot b → w'.heap[b]? = w.heap[b]?) : IsD w' y D :=
  ⟨h.head.of_block (hb _ (.inl rfl)), h.bod.of_blocks h.shp (fun _ => ⟨hb _ (.inr (.inl rfl)), hb _ (.inr (.inr (.inl rfl)))⟩) (fun _ => hb _ (.inr (.inr (.inr (.inl rfl))))) (fun _ => hb _ (.inr (.inr (.inr (.inr rfl))))),
    h.shp, fun b q => Nat.lt_of_lt_of_le (h.small b q) hs⟩
/-- A disk stands where another's blocks alone turn. -/
theorem IsD.only {F : Nat → Prop} (h : IsD w y D) (o : Only F w w') (hF : ∀ b, y.foot b → ¬ F b) : IsD w' y D :=
  h.of_blocks o.size fun b q => o.block b (h.small b q) (hF b q)
theorem IsD.alloc (h : IsD w y D) (o : Obj) : IsD (w.alloc o) y D := h.of_blocks (by simp) fun b q => Below.heap_alloc _ _ _ (h.small b q)
theorem IsD.drew (h : IsD w y D) : IsD w.drew y D := h.of_blocks (by simp) fun _ _ => rfl

theorem heap_setCell_ne (w : World) (a : Addr) (u : Value) (k : Nat) (h : k ≠ a.block) : (w.setCell a u).heap[k]? = w.heap[k]? := Below.heap_setCell w a u k h
theorem size_setCell' (w : World) (a : Addr) (u : Value) : (w.setCell a u).heap.size = w.heap.size := by simp [World.setCell]
theorem size_setCells' (b : Nat) : ∀ (vs : List Value) (o : Nat) (w : World), (w.setCells b o vs).heap.size = w.heap.size
  | [], _, _ => rfl
  | v :: r, o, w => by rw [World.setCells, size_setCells' b r, size_setCell']
theorem heap_setCells_ne (b : Nat) : ∀ (vs : List Value) (o : Nat) (w : World) (k : Nat), k ≠ b → (w.setCells b o vs).heap[k]? = w.heap[k]?
  | [], _, _, _, _ => rfl
  | v :: r, o, w, k, h => by rw [World.setCells, heap_setCells_ne b r _ _ k h, heap_setCell_ne _ _ _ _ h]

/-- ONE CELL OF THE STRUCT IS SET: on, deeds, left. -/
theorem IsD.set_on (h : IsD w y D) (v : Bool) : IsD (w.setCell ⟨y.p, 1, none⟩ (.bool v)) y { D with on := v } :=
  ⟨⟨rangeAt_set (k := 1) h.head.rng _, there_set h.head.thr _ _⟩,
    (fun b : Bod (w.setCell ⟨y.p, 1, none⟩ (.bool v)) y D => ⟨b.rL, b.rN, b.oW, b.tL, b.tN, b.rK⟩) (h.bod.off_p h.shp fun b hb => heap_setCell_ne _ _ _ _ hb),
    (fun s : Shp y D => ⟨s.len, s.most, s.blkL, s.blkN, s.blkW, s.deedsB, s.leftB, s.waitsB, s.capL, s.capN, s.capK, s.keepB, s.laE, s.naE, s.waE, s.kaE, s.nL, s.nW, s.nK⟩) h.shp,
    fun b q => by rw [size_setCell']; exact h.small b q⟩
theorem IsD.set_deeds (h : IsD w y D) (n : Nat) (hn : n < 2 ^ 60) : IsD (w.setCell ⟨y.p, 5, none⟩ (.int .i64 (n : Int))) y { D with deeds := n } :=
  ⟨⟨rangeAt_set (k := 5) h.head.rng _, there_set h.head.thr _ _⟩,
    (fun b : Bod (w.setCell ⟨y.p, 5, none⟩ (.int .i64 (n : Int))) y D => ⟨b.rL, b.rN, b.oW, b.tL, b.tN, b.rK⟩) (h.bod.off_p h.shp fun b hb => heap_setCell_ne _ _ _ _ hb),
    (fun s : Shp y D => ⟨s.len, s.most, s.blkL, s.blkN, s.blkW, hn, s.leftB, s.waitsB, s.capL, s.capN, s.capK, s.keepB, s.laE, s.naE, s.waE, s.kaE, s.nL, s.nW, s.nK⟩) h.shp,
    fun b q => by rw [size_setCell']; exact h.small b q⟩
theorem IsD.set_left (h : IsD w y D) (n : Nat) (hn : n < 2 ^ 63) : IsD (w.setCell ⟨y.p, 7, none⟩ (.int .i64 (n : Int))) y { D with left := n } :=
  ⟨⟨rangeAt_set (k := 7) h.head.rng _, there_set h.head.thr _ _⟩,
    (fun b : Bod (w.setCell ⟨y.p, 7, none⟩ (.int .i64 (n : Int))) y D => ⟨b.rL, b.rN, b.oW, b.tL, b.tN, b.rK⟩) (h.bod.off_p h.shp fun b hb => heap_setCell_ne _ _ _ _ hb),
    (fun s : Shp y D => ⟨s.len, s.most, s.blkL, s.blkN, s.blkW, s.deedsB, hn, s.waitsB, s.capL, s.capN, s.capK, s.keepB, s.laE, s.naE, s.waE, s.kaE, s.nL, s.nW, s.nK⟩) h.shp,
    fun b q => by rw [size_setCell']; exact h.small b q⟩
/-- NOTHING WAITS ANY MORE. -/
def Lay.noW (y : Lay) : Lay := { y with W := y.p, cW := 0, wa := none }
theorem IsD.set_noW (h : IsD w y D) : IsD (w.setCell ⟨y.p, 4, none⟩ (.slice none 0 0)) y.noW { D with waits := [] } :=
  ⟨⟨rangeAt_set (k := 4) h.head.rng _, there_set h.head.thr _ _⟩,
    (fun b : Bod (w.setCell ⟨y.p, 4, none⟩ (.slice none 0 0)) y D => ⟨b.rL, b.rN, World.ownsRow_nil _ _ _ _, b.tL, b.tN, b.rK⟩) (h.bod.off_p h.shp fun b hb => heap_setCell_ne _ _ _ _ hb),
    (fun s : Shp y D => ⟨s.len, s.most, s.blkL, s.blkN, fun x hx => by simp at hx, s.deedsB, s.leftB, by simp, s.capL, s.capN, s.capK, s.keepB, s.laE, s.naE, (.inl rfl), s.kaE, s.nL, fun q => by simp [Lay.noW] at q,
      fun q => ⟨(s.nK q).1, (s.nK q).2.1, (s.nK q).2.2.1, fun r => by simp [Lay.noW] at r⟩⟩) h.shp,
    fun b q => by
      rw [size_setCell']
      refine h.small b ?_
      rcases q with q | q | q | q | q
      · exact .inl q
      · exact .inr (.inl q)
      · exact .inr (.inr (.inl q))
      · exact .inl q
      · exact .inr (.inr (.inr (.inr q)))⟩
/-- NOTHING IS ARMED ANY MORE. -/
def Lay.noK (y : Lay) : Lay := { y with K := y.p, cK := 0, ka := none }
theorem IsD.set_noK (h : IsD w y D) : IsD (((w.setCell ⟨y.p, 6, none⟩ (.bool false)).setCell ⟨y.p, 7, none⟩ (.int .i64 0)).setCell ⟨y.p, 8, none⟩ (.slice none 0 0)) y.noK { D with lit := false, left := 0, keep := [] } :=
  ⟨⟨rangeAt_set (k := 8) (rangeAt_set (k := 7) (rangeAt_set (k := 6) h.head.rng _) _) _, there_set (there_set (there_set h.head.thr _ _) _ _) _ _⟩,
    (fun b : Bod (((w.setCell ⟨y.p, 6, none⟩ (.bool false)).setCell ⟨y.p, 7, none⟩ (.int .i64 0)).setCell ⟨y.p, 8, none⟩ (.slice none 0 0)) y D => ⟨b.rL, b.rN, b.oW, b.tL, b.tN, fun j x hx => by simp at hx⟩) (h.bod.off_p h.shp fun b hb => by rw [heap_setCell_ne _ _ _ _ hb, heap_setCell_ne _ _ _ _ hb, heap_setCell_ne _ _ _ _ hb]),
    (fun s : Shp y D => ⟨s.len, s.most, s.blkL, s.blkN, s.blkW, s.deedsB, by simp, s.waitsB, s.capL, s.capN, by simp, by simp, s.laE, s.naE, s.waE, fun q => by simp at q, s.nL, s.nW, fun q => by simp at q⟩) h.shp,
    fun b q => by
      rw [size_setCell', size_setCell', size_setCell']
      refine h.small b ?_
      rcases q with q | q | q | q | q
      · exact .inl q
      · exact .inr (.inl q)
      · exact .inr (.inr (.inl q))
      · exact .inr (.inr (.inr (.inl q)))
      · exact .inl q⟩
end
end Go.Proofs.YtbcdmcafobjpcaaGreatDoor.Sec
