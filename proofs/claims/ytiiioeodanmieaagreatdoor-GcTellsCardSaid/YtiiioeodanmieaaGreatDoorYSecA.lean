import Derived.Test.YtiiioeodanmieaaGreatDoorProg
import Derived.WalkKit
import Derived.Handy
import Derived.Deep.MidRow
import Derived.Deep.LoopGhost
import Derived.Lib.Hide
import Derived.RegionTactic
import Derived.ChangeAlike
import Derived.Deep.WholeRow
import Derived.Lib.LazyBuf
import Derived.Deep.AppendLies
import Derived.Deep.RegionHeld3
import Derived.Deep.RegionHeldLaw
import Derived.OwnWalk
set_option linter.unusedVariables false
set_option linter.unusedSimpArgs false
-- SecMem
namespace Go.Proofs.YtiiioeodanmieaaGreatDoor.Sec
open Go.RowKit

structure Only (F : Nat → Prop) (w w' : World) : Prop where
  os : w'.os = w.os
  tape : w'.tape = w.tape
  output : w'.output = w.output
  size : w.heap.size ≤ w'.heap.size
  block : ∀ k, k < w.heap.size → ¬ F k → w'.heap[k]? = w.heap[k]?

theorem Only.refl (F : Nat → Prop) (w : World) : Only F w w := ⟨rfl, rfl, rfl, Nat.le_refl _, fun _ _ _ => rfl⟩
theorem Only.trans {F G : Nat → Prop} {a b c : World} (h : Only F a b) (k : Only G b c) (hG : ∀ i, i < a.heap.size → G i → F i) : Only F a c :=
  ⟨k.os.trans h.os, k.tape.trans h.tape, k.output.trans h.output, Nat.le_trans h.size k.size,
    fun i hi hF => (k.block i (Nat.lt_of_lt_of_le hi h.size) (fun g => hF (hG i hi g))).trans (h.block i hi hF)⟩
theorem Only.mono {F G : Nat → Prop} {a b : World} (h : Only F a b) (hG : ∀ i, i < a.heap.size → F i → G i) : Only G a b :=
  ⟨h.os, h.tape, h.output, h.size, fun i hi hF => h.block i hi (fun f => hF (hG i hi f))⟩
theorem Only.drew {F : Nat → Prop} {a w : World} (h : Only F a w) : Only F a w.drew := ⟨h.os, h.tape, h.output, h.size, h.block⟩
theorem Only.alloc {F : Nat → Prop} {a w : World} (h : Only F a w) (o : Obj) : Only F a (w.alloc o) :=
  ⟨h.os, h.tape, h.output, by have := h.size; simp; omega, fun k hk hF => by have := h.size; rw [Below.heap_alloc _ _ _ (by omega)]; exact h.block k hk hF⟩
theorem Only.setCell {F : Nat → Prop} {a w : World} (h : Only F a w) {p : Addr} (hp : F p.block ∨ a.heap.size ≤ p.block) (u : Value) : Only F a (w.setCell p u) :=
  ⟨h.os, h.tape, h.output, by have := h.size; simp [World.setCell]; omega, fun k hk hF => by
    rw [Below.heap_setCell _ _ _ _ (fun e => by rcases hp with hp | hp; exact hF (e ▸ hp); omega)]; exact h.block k hk hF⟩
theorem Only.setCells {F : Nat → Prop} {a : World} {b : Nat} (hp : F b ∨ a.heap.size ≤ b) : ∀ (vs : List Value) (o : Nat) {w : World}, Only F a w → Only F a (w.setCells b o vs)
  | [], _, _, h => h
  | v :: r, o, _, h => Only.setCells hp r (o + 1) (h.setCell (p := ⟨b, o, none⟩) hp v)
theorem Only.grown {F : Nat → Prop} {a w w' : World} {row : Option Nat} (h : Only F a w) (hg : w.grownBy w' row) (hr : ∀ k, row = some k → F k ∨ a.heap.size ≤ k) : Only F a w' :=
  ⟨hg.os.trans h.os, hg.tape.trans h.tape, hg.output.trans h.output, Nat.le_trans h.size hg.size, fun k hk hF =>
    (hg.block k (Nat.lt_of_lt_of_le hk h.size) (fun e => by rcases hr k e.symm with r | r; exact hF r; omega)).trans (h.block k hk hF)⟩
theorem Only.below {F : Nat → Prop} {w w' : World} (h : Only F w w') {B : Nat} (hF : ∀ k, F k → B ≤ k) (hB : B ≤ w.heap.size) : Below B w w' :=
  ⟨h.os, h.tape, h.output, h.size, fun k hk => h.block k (by omega) (fun f => by have := hF k f; omega)⟩
def Rows (w : World) (b k : Nat) (l : List (List Value)) : Prop := ∀ j x, l[j]? = some x → w.rangeAt b (j * k) x

theorem rangeAt_of_block {w w' : World} {b o : Nat} {cs : List Value} (hb : w'.heap[b]? = w.heap[b]?) (h : w.rangeAt b o cs) : w'.rangeAt b o cs :=
  fun j v hv => (World.cell?_of_block (w := w) (a := ⟨b, o + j, none⟩) hb).trans (h j v hv)
theorem there_of_block {w w' : World} {b o n : Nat} (hb : w'.heap[b]? = w.heap[b]?) (h : w.there b o n) : w'.there b o n :=
  fun j hj => ⟨by rw [World.cell?_of_block (w := w) (a := ⟨b, o + j, none⟩) hb]; exact (h j hj).1, by rw [World.frozen?_of_block (w := w) (a := ⟨b, o + j, none⟩) hb]; exact (h j hj).2⟩
theorem rows_of_block {w w' : World} {b k : Nat} {l : List (List Value)} (hb : w'.heap[b]? = w.heap[b]?) (h : Rows w b k l) : Rows w' b k l :=
  fun j x hx => rangeAt_of_block hb (h j x hx)

theorem rangeAt_set {w : World} {b k : Nat} {cs : List Value} (h : w.rangeAt b 0 cs) (v : Value) : (w.setCell ⟨b, k, none⟩ v).rangeAt b 0 (cs.set k v) := fun j u hu => by
  simp only [List.getElem?_set] at hu
  split at hu
  · rename_i e
    subst e
    split at hu
    · rename_i hk
      obtain rfl : v = u := by simpa using hu
      have h0 := h k _ (List.getElem?_eq_getElem hk)
      simp only [Nat.zero_add] at h0 ⊢
      exact World.cell?_setCell_same _ _ _ h0
    · cases hu
  · rename_i e
    rw [World.cell?_setCell_other _ _ _ _ (by simp)]
    exact h j u hu
theorem there_set {w : World} {b o n : Nat} (h : w.there b o n) (p : Addr) (v : Value) : (w.setCell p v).there b o n := fun j hj => by
  obtain ⟨h1, h2⟩ := h j hj
  refine ⟨?_, by rw [World.frozen?_setCell]; exact h2⟩
  obtain ⟨u, hu⟩ := Option.isSome_iff_exists.1 h1
  by_cases e : p = ⟨b, o + j, none⟩
  · subst e; rw [World.cell?_setCell_same _ _ _ hu]; rfl
  · rw [World.cell?_setCell_other _ _ _ _ e, hu]; rfl

theorem rows_set {w : World} {b k n : Nat} {l : List (List Value)} (h : Rows w b k l) (hl : ∀ x ∈ l, x.length = k) (ht : w.there b 0 (n * k)) (i : Nat) (hi : i < n) (vs : List Value) (hv : vs.length = k) :
    Rows (w.setCells b (i * k) vs) b k (l.set i vs) := fun j x hx => by
  have hst : w.there b (i * k) vs.length := fun m hm => by
    have : i * k + k ≤ n * k := by have := Nat.mul_le_mul_right k (show i + 1 ≤ n by omega); rw [Nat.add_mul] at this; omega
    have := ht (i * k + m) (by omega)
    simpa using this
  simp only [List.getElem?_set] at hx
  split at hx
  · rename_i e
    subst e
    split at hx
    · obtain rfl : vs = x := by simpa using hx
      exact World.rangeAt_setCells_same w b (i * k) vs hst
    · cases hx
  · rename_i e
    have hxl := hl x (List.mem_of_getElem? hx)
    refine World.rangeAt_setCells_apart (h j x hx) b (i * k) vs (.inr ?_)
    rw [hxl, hv]
    rcases Nat.lt_or_gt_of_ne e with e | e
    · right; have := Nat.mul_le_mul_right k (show i + 1 ≤ j by omega); rw [Nat.add_mul] at this; omega
    · left; have := Nat.mul_le_mul_right k (show j + 1 ≤ i by omega); rw [Nat.add_mul] at this; omega
structure Dsk where
  on : Bool
  lasts : List ByteArray
  now : List ByteArray
  waits : List (Nat × ByteArray)
  deeds : Nat
  lit : Bool
  left : Nat
  keep : List Int

def bcells (b : ByteArray) : List Value := b.data.toList.map fun x => .int .u8 (x.toNat : Int)
def wcells (x : Nat × ByteArray) : List Value := .int .i64 (x.1 : Int) :: bcells x.2
theorem bcells_len (b : ByteArray) : (bcells b).length = b.size := by simp [bcells]

structure Lay where
  p : Nat
  L : Nat
  N : Nat
  W : Nat
  K : Nat
  cL : Nat
  cN : Nat
  cW : Nat
  cK : Nat
  la : Option Addr
  na : Option Addr
  wa : Option Addr
  ka : Option Addr

def Lay.foot (y : Lay) (b : Nat) : Prop := b = y.p ∨ b = y.L ∨ b = y.N ∨ b = y.W ∨ b = y.K

def headc (y : Lay) (D : Dsk) : List Value :=
  [.bool true, .bool D.on, .slice y.la D.lasts.length y.cL, .slice y.na D.now.length y.cN, .slice y.wa D.waits.length y.cW, .int .i64 (D.deeds : Int), .bool D.lit, .int .i64 (D.left : Int), .slice y.ka D.keep.length y.cK]

structure Head (w : World) (y : Lay) (D : Dsk) : Prop where
  rng : w.rangeAt y.p 0 (headc y D)
  thr : w.there y.p 0 9

structure Bod (w : World) (y : Lay) (D : Dsk) : Prop where
  rL : Rows w y.L 32 (D.lasts.map bcells)
  rN : Rows w y.N 32 (D.now.map bcells)
  oW : w.ownsRow 0 281 33 (.slice y.wa D.waits.length y.cW) D.waits.length (D.waits.flatMap wcells)
  tL : w.there y.L 0 (D.lasts.length * 32)
  tN : w.there y.N 0 (D.lasts.length * 32)
  rK : ∀ j z, D.keep[j]? = some z → w.cell? ⟨y.K, j, none⟩ = some (.int .i64 z)

structure Shp (y : Lay) (D : Dsk) : Prop where
  len : D.now.length = D.lasts.length
  most : D.lasts.length ≤ 3000
  blkL : ∀ b ∈ D.lasts, b.size = 32
  blkN : ∀ b ∈ D.now, b.size = 32
  blkW : ∀ x ∈ D.waits, x.2.size = 32 ∧ x.1 < D.lasts.length
  deedsB : D.deeds < 2 ^ 60
  leftB : D.left < 2 ^ 63
  waitsB : D.waits.length < 2 ^ 40
  capL : D.lasts.length ≤ y.cL
  capN : D.now.length ≤ y.cN
  capK : D.keep.length ≤ y.cK
  keepB : D.keep.length < 2 ^ 62
  laE : 0 < D.lasts.length → y.la = some ⟨y.L, 0, none⟩
  naE : 0 < D.lasts.length → y.na = some ⟨y.N, 0, none⟩
  waE : y.wa = none ∨ y.wa = some ⟨y.W, 0, none⟩
  kaE : 0 < D.keep.length → y.ka = some ⟨y.K, 0, none⟩
  nL : 0 < D.lasts.length → y.L ≠ y.p ∧ y.N ≠ y.p ∧ y.L ≠ y.N
  nW : y.wa ≠ none → y.W ≠ y.p ∧ y.W ≠ y.L ∧ y.W ≠ y.N
  nK : 0 < D.keep.length → y.K ≠ y.p ∧ y.K ≠ y.L ∧ y.K ≠ y.N ∧ (y.wa ≠ none → y.K ≠ y.W)

structure IsD (w : World) (y : Lay) (D : Dsk) : Prop where
  head : Head w y D
  bod : Bod w y D
  shp : Shp y D
  small : ∀ b, y.foot b → b < w.heap.size

section
variable {w w' : World} {y : Lay} {D : Dsk}
theorem Head.c0 (h : Head w y D) : w.cell? ⟨y.p, 0, none⟩ = some (.bool true) := by simpa using h.rng 0 _ rfl
theorem Head.c1 (h : Head w y D) : w.cell? ⟨y.p, 1, none⟩ = some (.bool D.on) := by simpa using h.rng 1 _ rfl
theorem Head.c2 (h : Head w y D) : w.cell? ⟨y.p, 2, none⟩ = some (.slice y.la D.lasts.length y.cL) := by simpa using h.rng 2 _ rfl
theorem Head.c3 (h : Head w y D) : w.cell? ⟨y.p, 3, none⟩ = some (.slice y.na D.now.length y.cN) := by simpa using h.rng 3 _ rfl
theorem Head.c4 (h : Head w y D) : w.cell? ⟨y.p, 4, none⟩ = some (.slice y.wa D.waits.length y.cW) := by simpa using h.rng 4 _ rfl
theorem Head.c5 (h : Head w y D) : w.cell? ⟨y.p, 5, none⟩ = some (.int .i64 (D.deeds : Int)) := by simpa using h.rng 5 _ rfl
theorem Head.c6 (h : Head w y D) : w.cell? ⟨y.p, 6, none⟩ = some (.bool D.lit) := by simpa using h.rng 6 _ rfl
theorem Head.c7 (h : Head w y D) : w.cell? ⟨y.p, 7, none⟩ = some (.int .i64 (D.left : Int)) := by simpa using h.rng 7 _ rfl
theorem Head.c8 (h : Head w y D) : w.cell? ⟨y.p, 8, none⟩ = some (.slice y.ka D.keep.length y.cK) := by simpa using h.rng 8 _ rfl
theorem Head.fz (h : Head w y D) (j : Nat) (hj : j < 9) : w.frozen? ⟨y.p, j, none⟩ = false := by simpa using (h.thr j hj).2
theorem Head.of_block (h : Head w y D) (hb : w'.heap[y.p]? = w.heap[y.p]?) : Head w' y D := ⟨rangeAt_of_block hb h.rng, there_of_block hb h.thr⟩

theorem Bod.of_blocks (h : Bod w y D) (s : Shp y D) (hL : 0 < D.lasts.length → w'.heap[y.L]? = w.heap[y.L]? ∧ w'.heap[y.N]? = w.heap[y.N]?) (hW : y.wa ≠ none → w'.heap[y.W]? = w.heap[y.W]?)
    (hK : 0 < D.keep.length → w'.heap[y.K]? = w.heap[y.K]?) : Bod w' y D where
  rL := fun j x hx => rangeAt_of_block (hL (by have := (List.getElem?_eq_some_iff.1 hx).1; simp at this; omega)).1 (h.rL j x hx)
  rN := fun j x hx => rangeAt_of_block (hL (by have := (List.getElem?_eq_some_iff.1 hx).1; have := s.len; simp at *; omega)).2 (h.rN j x hx)
  oW := by
    refine ⟨h.oW.1, ?_⟩
    rcases h.oW.2 with q | ⟨g, cap, cur, hv, hg, hh, r⟩
    · exact .inl q
    · have hwa : y.wa = some ⟨g, 0, none⟩ := by simpa using congrArg (fun v => match v with | .slice a _ _ => a | _ => none) hv
      have hne : y.wa ≠ none := by rw [hwa]; simp
      have hg' : g = y.W := by
        rcases s.waE with q | q
        · exact absurd q hne
        · rw [hwa] at q; simpa using q
      subst hg'
      exact .inr ⟨_, cap, cur, hv, hg, by rw [hW hne]; exact hh, r⟩
  tL := fun j hj => there_of_block (hL (by omega)).1 h.tL j hj
  tN := fun j hj => there_of_block (hL (by omega)).2 h.tN j hj
  rK := fun j z hz => by
    have hb := hK (by have := (List.getElem?_eq_some_iff.1 hz).1; omega)
    rw [World.cell?_of_block (w := w) (a := ⟨y.K, j, none⟩) hb]
    exact h.rK j z hz
theorem Bod.off_p (h : Bod w y D) (s : Shp y D) (hb : ∀ b, b ≠ y.p → w'.heap[b]? = w.heap[b]?) : Bod w' y D :=
  h.of_blocks s (fun h0 => ⟨hb _ (s.nL h0).1, hb _ (s.nL h0).2.1⟩) (fun h0 => hb _ (s.nW h0).1) (fun h0 => hb _ (s.nK h0).1)
theorem IsD.of_blocks (h : IsD w y D) (hs : w.heap.size ≤ w'.heap.size) (hb : ∀ b, y.foot b → w'.heap[b]? = w.heap[b]?) : IsD w' y D :=
  ⟨h.head.of_block (hb _ (.inl rfl)), h.bod.of_blocks h.shp (fun _ => ⟨hb _ (.inr (.inl rfl)), hb _ (.inr (.inr (.inl rfl)))⟩) (fun _ => hb _ (.inr (.inr (.inr (.inl rfl))))) (fun _ => hb _ (.inr (.inr (.inr (.inr rfl))))),
    h.shp, fun b q => Nat.lt_of_lt_of_le (h.small b q) hs⟩
theorem IsD.only {F : Nat → Prop} (h : IsD w y D) (o : Only F w w') (hF : ∀ b, y.foot b → ¬ F b) : IsD w' y D :=
  h.of_blocks o.size fun b q => o.block b (h.small b q) (hF b q)
theorem IsD.alloc (h : IsD w y D) (o : Obj) : IsD (w.alloc o) y D := h.of_blocks (by simp) fun b q => Below.heap_alloc _ _ _ (h.small b q)
theorem IsD.drew (h : IsD w y D) : IsD w.drew y D := h.of_blocks (by simp) fun _ _ => rfl

theorem heap_setCell_ne (w : World) (a : Addr) (u : Value) (k : Nat) (h : k ≠ a.block) : (w.setCell a u).heap[k]? = w.heap[k]? := Below.heap_setCell w a u k h
theorem size_setCell' (w : World) (a : Addr) (u : Value) : (w.setCell a u).heap.size = w.heap.size := by simp [World.setCell]
theorem size_setCells' (b : Nat) : ∀ (vs : List Value) (o : Nat) (w : World), (w.setCells b o vs).heap.size = w.heap.size
  | [], _, _ => rfl
  | v :: r, o, w => by rw [World.setCells, size_setCells' b r, size_setCell']
theorem heap_setCells_ne (b : Nat) : ∀ (vs : List Value) (o : Nat) (w : World) (k : Nat), k ≠ b → (w.setCells b o vs).heap[k]? = w.heap[k]?
  | [], _, _, _, _ => rfl
  | v :: r, o, w, k, h => by rw [World.setCells, heap_setCells_ne b r _ _ k h, heap_setCell_ne _ _ _ _ h]

theorem IsD.set_on (h : IsD w y D) (v : Bool) : IsD (w.setCell ⟨y.p, 1, none⟩ (.bool v)) y { D with on := v } :=
  ⟨⟨rangeAt_set (k := 1) h.head.rng _, there_set h.head.thr _ _⟩,
    (fun b : Bod (w.setCell ⟨y.p, 1, none⟩ (.bool v)) y D => ⟨b.rL, b.rN, b.oW, b.tL, b.tN, b.rK⟩) (h.bod.off_p h.shp fun b hb => heap_setCell_ne _ _ _ _ hb),
    (fun s : Shp y D => ⟨s.len, s.most, s.blkL, s.blkN, s.blkW, s.deedsB, s.leftB, s.waitsB, s.capL, s.capN, s.capK, s.keepB, s.laE, s.naE, s.waE, s.kaE, s.nL, s.nW, s.nK⟩) h.shp,
    fun b q => by rw [size_setCell']; exact h.small b q⟩
theorem IsD.set_deeds (h : IsD w y D) (n : Nat) (hn : n < 2 ^ 60) : IsD (w.setCell ⟨y.p, 5, none⟩ (.int .i64 (n : Int))) y { D with deeds := n } :=
  ⟨⟨rangeAt_set (k := 5) h.head.rng _, there_set h.head.thr _ _⟩,
    (fun b : Bod (w.setCell ⟨y.p, 5, none⟩ (.int .i64 (n : Int))) y D => ⟨b.rL, b.rN, b.oW, b.tL, b.tN, b.rK⟩) (h.bod.off_p h.shp fun b hb => heap_setCell_ne _ _ _ _ hb),
    (fun s : Shp y D => ⟨s.len, s.most, s.blkL, s.blkN, s.blkW, hn, s.leftB, s.waitsB, s.capL, s.capN, s.capK, s.keepB, s.laE, s.naE, s.waE, s.kaE, s.nL, s.nW, s.nK⟩) h.shp,
    fun b q => by rw [size_setCell']; exact h.small b q⟩
theorem IsD.set_left (h : IsD w y D) (n : Nat) (hn : n < 2 ^ 63) : IsD (w.setCell ⟨y.p, 7, none⟩ (.int .i64 (n : Int))) y { D with left := n } :=
  ⟨⟨rangeAt_set (k := 7) h.head.rng _, there_set h.head.thr _ _⟩,
    (fun b : Bod (w.setCell ⟨y.p, 7, none⟩ (.int .i64 (n : Int))) y D => ⟨b.rL, b.rN, b.oW, b.tL, b.tN, b.rK⟩) (h.bod.off_p h.shp fun b hb => heap_setCell_ne _ _ _ _ hb),
    (fun s : Shp y D => ⟨s.len, s.most, s.blkL, s.blkN, s.blkW, s.deedsB, hn, s.waitsB, s.capL, s.capN, s.capK, s.keepB, s.laE, s.naE, s.waE, s.kaE, s.nL, s.nW, s.nK⟩) h.shp,
    fun b q => by rw [size_setCell']; exact h.small b q⟩
def Lay.noW (y : Lay) : Lay := { y with W := y.p, cW := 0, wa := none }
theorem IsD.set_noW (h : IsD w y D) : IsD (w.setCell ⟨y.p, 4, none⟩ (.slice none 0 0)) y.noW { D with waits := [] } :=
  ⟨⟨rangeAt_set (k := 4) h.head.rng _, there_set h.head.thr _ _⟩,
    (fun b : Bod (w.setCell ⟨y.p, 4, none⟩ (.slice none 0 0)) y D => ⟨b.rL, b.rN, World.ownsRow_nil _ _ _ _, b.tL, b.tN, b.rK⟩) (h.bod.off_p h.shp fun b hb => heap_setCell_ne _ _ _ _ hb),
    (fun s : Shp y D => ⟨s.len, s.most, s.blkL, s.blkN, fun x hx => by simp at hx, s.deedsB, s.leftB, by simp, s.capL, s.capN, s.capK, s.keepB, s.laE, s.naE, (.inl rfl), s.kaE, s.nL, fun q => by simp [Lay.noW] at q,
      fun q => ⟨(s.nK q).1, (s.nK q).2.1, (s.nK q).2.2.1, fun r => by simp [Lay.noW] at r⟩⟩) h.shp,
    fun b q => by
      rw [size_setCell']
      refine h.small b ?_
      rcases q with q | q | q | q | q
      · exact .inl q
      · exact .inr (.inl q)
      · exact .inr (.inr (.inl q))
      · exact .inl q
      · exact .inr (.inr (.inr (.inr q)))⟩
def Lay.noK (y : Lay) : Lay := { y with K := y.p, cK := 0, ka := none }
theorem IsD.set_noK (h : IsD w y D) : IsD (((w.setCell ⟨y.p, 6, none⟩ (.bool false)).setCell ⟨y.p, 7, none⟩ (.int .i64 0)).setCell ⟨y.p, 8, none⟩ (.slice none 0 0)) y.noK { D with lit := false, left := 0, keep := [] } :=
  ⟨⟨rangeAt_set (k := 8) (rangeAt_set (k := 7) (rangeAt_set (k := 6) h.head.rng _) _) _, there_set (there_set (there_set h.head.thr _ _) _ _) _ _⟩,
    (fun b : Bod (((w.setCell ⟨y.p, 6, none⟩ (.bool false)).setCell ⟨y.p, 7, none⟩ (.int .i64 0)).setCell ⟨y.p, 8, none⟩ (.slice none 0 0)) y D => ⟨b.rL, b.rN, b.oW, b.tL, b.tN, fun j x hx => by simp at hx⟩) (h.bod.off_p h.shp fun b hb => by rw [heap_setCell_ne _ _ _ _ hb, heap_setCell_ne _ _ _ _ hb, heap_setCell_ne _ _ _ _ hb]),
    (fun s : Shp y D => ⟨s.len, s.most, s.blkL, s.blkN, s.blkW, s.deedsB, by simp, s.waitsB, s.capL, s.capN, by simp, by simp, s.laE, s.naE, s.waE, fun q => by simp at q, s.nL, s.nW, fun q => by simp at q⟩) h.shp,
    fun b q => by
      rw [size_setCell', size_setCell', size_setCell']
      refine h.small b ?_
      rcases q with q | q | q | q | q
      · exact .inl q
      · exact .inr (.inl q)
      · exact .inr (.inr (.inl q))
      · exact .inr (.inr (.inr (.inl q)))
      · exact .inl q⟩
end
end Go.Proofs.YtiiioeodanmieaaGreatDoor.Sec
-- SecRead
namespace Go.Proofs.YtiiioeodanmieaaGreatDoor.Sec
open Go.RowKit

set_option maxHeartbeats 400000 in
theorem none_is (y : Lay) (D : Dsk) (w : World) (h : IsD w y D) :
    Calls Tryz.prog 162 #[.pointer (some ⟨y.p, 0, none⟩)] w fun e w' => e = .returned (.bool false) ∧ w' = w := by
  have c0 := h.head.c0
  go_enter Tryz.func162, Tryz.ntmps162
  go_wp2
  go_ret
  exact ⟨rfl, rfl⟩

set_option maxHeartbeats 400000 in
theorem none_nil (w : World) :
    Calls Tryz.prog 162 #[.pointer none] w fun e w' => e = .returned (.bool true) ∧ w' = w := by
  go_enter Tryz.func162, Tryz.ntmps162
  go_wp2
  go_ret
  exact ⟨rfl, rfl⟩

set_option maxHeartbeats 400000 in
theorem fills_is (s : ByteArray) (w : World) :
    Calls Tryz.prog 216 #[.string s] w fun e w' => e = .returned (.bool (s.size == 32)) ∧ w' = w := by
  cases hb : (s.size == 32)
  all_goals
    have h1 : (((s.size : Nat) : Int) == 32) = (s.size == 32) := by
      rw [Bool.eq_iff_iff]; simp; omega
    rw [hb] at h1
    go_enter Tryz.func216, Tryz.ntmps216
    go_wp2
    go_ret
    exact ⟨rfl, rfl⟩

def Dsk.has (D : Dsk) (k : Int) : Bool := decide (0 ≤ k ∧ k < (D.lasts.length : Int))

set_option maxHeartbeats 400000 in
theorem has_is (y : Lay) (D : Dsk) (k : Int) (w : World) (h : IsD w y D) :
    Calls Tryz.prog 217 #[.pointer (some ⟨y.p, 0, none⟩), .int .i64 k] w fun e w' => e = .returned (.bool (D.has k)) ∧ w' = w := by
  have c2 := h.head.c2
  have hl := h.shp.most
  cases hb : D.has k
  · simp only [Dsk.has, decide_eq_false_iff_not] at hb
    by_cases h0 : 0 ≤ k
    · have h1 : ¬ k < (D.lasts.length : Int) := fun h => hb ⟨h0, h⟩
      clear hb h
      go_enter Tryz.func217, Tryz.ntmps217
      go_wp2
      go_ret
      exact ⟨rfl, rfl⟩
    · clear hb h
      go_enter Tryz.func217, Tryz.ntmps217
      go_wp2
      go_ret
      exact ⟨rfl, rfl⟩
  · simp only [Dsk.has, decide_eq_true_eq] at hb
    obtain ⟨h0, h1⟩ := hb
    clear h
    go_enter Tryz.func217, Tryz.ntmps217
    go_wp2
    go_ret
    exact ⟨rfl, rfl⟩

def Dsk.mayW (D : Dsk) (k : Int) (b : ByteArray) : Int := if D.on then (if D.has k && b.size == 32 then 0 else 1) else 3
def Dsk.mayR (D : Dsk) (k : Int) : Int := if D.on then (if D.has k then 0 else 1) else 3
def Dsk.mayB (D : Dsk) : Int := if D.on then 0 else 3

set_option maxHeartbeats 1000000 in
theorem mayW_is (y : Lay) (D : Dsk) (k : Int) (b : ByteArray) (w : World) (h : IsD w y D) :
    Calls Tryz.prog 190 #[.pointer (some ⟨y.p, 0, none⟩), .int .i64 0, .int .i64 k, .string b] w fun e w' => e = .returned (.int .i64 (D.mayW k b)) ∧ w' = w := by
  have c1 := h.head.c1
  unfold Dsk.mayW
  have H := Lib.hid h
  clear h
  cases ho : D.on <;> cases hh : D.has k <;> cases hb : (b.size == 32)
  all_goals
    rw [ho] at c1
    have HB := Lib.hid (And.intro hh hb)
    clear ho hh hb
    go_enter Tryz.func190, Tryz.ntmps190
    go_wp2_with (first | (go_at_call 162; refine (none_is y D _ H.out).mono ?_; rintro e w' ⟨rfl, rfl⟩) | (go_at_call 216; refine (fills_is b _).mono ?_; rintro e w' ⟨rfl, rfl⟩; rw [HB.out.2]) | (go_at_call 217; refine (has_is y D k _ H.out).mono ?_; rintro e w' ⟨rfl, rfl⟩; rw [HB.out.1]))
    go_ret
    exact ⟨rfl, rfl⟩

set_option maxHeartbeats 1000000 in
theorem mayR_is (y : Lay) (D : Dsk) (k : Int) (b : ByteArray) (w : World) (h : IsD w y D) :
    Calls Tryz.prog 190 #[.pointer (some ⟨y.p, 0, none⟩), .int .i64 1, .int .i64 k, .string b] w fun e w' => e = .returned (.int .i64 (D.mayR k)) ∧ w' = w := by
  have c1 := h.head.c1
  unfold Dsk.mayR
  have H := Lib.hid h
  clear h
  cases ho : D.on <;> cases hh : D.has k
  all_goals
    rw [ho] at c1
    have HB := Lib.hid hh
    clear ho hh
    go_enter Tryz.func190, Tryz.ntmps190
    go_wp2_with (first | (go_at_call 162; refine (none_is y D _ H.out).mono ?_; rintro e w' ⟨rfl, rfl⟩) | (go_at_call 217; refine (has_is y D k _ H.out).mono ?_; rintro e w' ⟨rfl, rfl⟩; rw [HB.out]))
    go_ret
    exact ⟨rfl, rfl⟩

set_option maxHeartbeats 1000000 in
theorem mayB_is (y : Lay) (D : Dsk) (k : Int) (b : ByteArray) (w : World) (h : IsD w y D) :
    Calls Tryz.prog 190 #[.pointer (some ⟨y.p, 0, none⟩), .int .i64 2, .int .i64 k, .string b] w fun e w' => e = .returned (.int .i64 D.mayB) ∧ w' = w := by
  have c1 := h.head.c1
  unfold Dsk.mayB
  have H := Lib.hid h
  clear h
  cases ho : D.on
  all_goals
    rw [ho] at c1
    clear ho
    go_enter Tryz.func190, Tryz.ntmps190
    go_wp2_with (go_at_call 162; refine (none_is y D _ H.out).mono ?_; rintro e w' ⟨rfl, rfl⟩)
    go_ret
    exact ⟨rfl, rfl⟩

set_option maxHeartbeats 400000 in
theorem On_is (y : Lay) (D : Dsk) (w : World) (h : IsD w y D) :
    Calls Tryz.prog 169 #[.pointer (some ⟨y.p, 0, none⟩)] w fun e w' => e = .returned (.bool D.on) ∧ w' = w := by
  have c1 := h.head.c1
  have H := Lib.hid h
  clear h
  cases ho : D.on
  all_goals
    rw [ho] at c1
    clear ho
    go_enter Tryz.func169, Tryz.ntmps169
    go_wp2_with (go_at_call 162; refine (none_is y D _ H.out).mono ?_; rintro e w' ⟨rfl, rfl⟩)
    go_ret
    exact ⟨rfl, rfl⟩

set_option maxHeartbeats 400000 in
theorem Len_is (y : Lay) (D : Dsk) (w : World) (h : IsD w y D) :
    Calls Tryz.prog 150 #[.pointer (some ⟨y.p, 0, none⟩)] w fun e w' => e = .returned (.int .i64 (D.lasts.length : Int)) ∧ w' = w := by
  have cc := h.head.c2
  have H := Lib.hid h
  clear h
  go_enter Tryz.func150, Tryz.ntmps150
  go_wp2_with (go_at_call 162; refine (none_is y D _ H.out).mono ?_; rintro e w' ⟨rfl, rfl⟩)
  go_ret
  exact ⟨rfl, rfl⟩
end Go.Proofs.YtiiioeodanmieaaGreatDoor.Sec
-- SecMore
namespace Go.Proofs.YtiiioeodanmieaaGreatDoor.Sec
open Go.RowKit

def Dsk.fallsNow (D : Dsk) : Bool := D.lit && D.left == 0
def Dsk.down (D : Dsk) : Dsk := if D.lit then { D with left := D.left - 1 } else D
theorem Only.foot_p {y : Lay} {w : World} (k : Nat) (v : Value) : Only y.foot w (w.setCell ⟨y.p, k, none⟩ v) := (Only.refl _ _).setCell (.inl (.inl rfl)) _

set_option maxHeartbeats 1000000 in
theorem falls_yes (y : Lay) (D : Dsk) (w : World) (h : IsD w y D) (hf : D.fallsNow = true) :
    Calls Tryz.prog 208 #[.pointer (some ⟨y.p, 0, none⟩)] w fun e w' => e = .returned (.bool true) ∧ w' = w := by
  have c6 := h.head.c6
  have c7 := h.head.c7
  simp only [Dsk.fallsNow, Bool.and_eq_true, beq_iff_eq] at hf
  obtain ⟨h1, h2⟩ := hf
  rw [h1] at c6
  rw [h2] at c7
  clear h h1 h2
  go_enter Tryz.func208, Tryz.ntmps208
  go_wp2
  go_ret
  exact ⟨rfl, rfl⟩

set_option maxHeartbeats 1000000 in
theorem falls_no (y : Lay) (D : Dsk) (w : World) (h : IsD w y D) (hf : D.fallsNow = false) :
    Calls Tryz.prog 208 #[.pointer (some ⟨y.p, 0, none⟩)] w fun e w' => e = .returned (.bool false) ∧ IsD w' y D.down ∧ Only y.foot w w' := by
  have c6 := h.head.c6
  have c7 := h.head.c7
  have f7 := h.head.fz 7 (by omega)
  have hB := h.shp.leftB
  cases hl : D.lit
  · rw [hl] at c6
    have HH := Lib.hid (And.intro h hl)
    clear h hl hf
    go_enter Tryz.func208, Tryz.ntmps208
    go_wp2
    go_ret
    refine ⟨rfl, ?_, Only.refl _ _⟩
    rw [Dsk.down, HH.out.2]
    exact HH.out.1
  · rw [hl] at c6
    have hn : 0 < D.left := by simp [Dsk.fallsNow, hl] at hf; omega
    have h0 : (((D.left : Nat) : Int) == 0) = false := by simp; omega
    have HH := Lib.hid (And.intro h hl)
    clear h hl hf
    go_enter Tryz.func208, Tryz.ntmps208
    go_wp2
    go_ret
    refine ⟨rfl, ?_, Only.foot_p _ _⟩
    rw [Dsk.down, if_pos HH.out.2]
    have := HH.out.1.set_left (D.left - 1) (by omega)
    rw [show ((D.left - 1 : Nat) : Int) = (D.left : Int) - 1 by omega] at this
    exact this

theorem foldl_push (ns : List UInt8) : ∀ (s : ByteArray), (ns.map fun x => (x.toNat : Int)).foldl (fun r n => r.push (UInt8.ofNat n.toNat)) s = ⟨s.data ++ ns.toArray⟩ := by
  induction ns with
  | nil => intro s; simp
  | cons x ns ih =>
    intro s
    simp only [List.map_cons, List.foldl_cons, ih]
    simp [ByteArray.push]
theorem run_bytes_is {P : Program} (w : World) (b o n cap : Nat) (s : ByteArray) (hn : s.size = n) (hr : w.rangeAt b o (bcells s)) :
    (Conv.bytesToString (.slice (some ⟨b, o, none⟩) n cap)).run P w = .ok (.string s) w := by
  have hl : (loadCells ⟨b, o, none⟩ n).run P w = .ok ((s.data.toList.map fun x => (x.toNat : Int)).map (Value.int .u8)).toArray w := by
    have := run_loadCells_list (P := P) w ⟨b, o, none⟩ (bcells s) (fun j v hv => by rw [Addr.add_mid]; exact hr j v hv)
    rw [bcells_len, hn] at this
    rw [this]
    simp [bcells, Function.comp_def]
  rw [run_bytesToString w _ n cap _ hl, foldl_push]
  simp

def Dsk.at_ (D : Dsk) (k : Int) : ByteArray := D.now.getD k.toNat ByteArray.empty

set_option maxHeartbeats 1000000 in
theorem Read_is (y : Lay) (D : Dsk) (k : Int) (w : World) (h : IsD w y D) :
    Calls Tryz.prog 170 #[.pointer (some ⟨y.p, 0, none⟩), .int .i64 k] w fun e w' =>
      e = .returned (.tuple #[.string (if D.mayR k = 0 then D.at_ k else ByteArray.empty), .int .i64 (D.mayR k)]) ∧ w' = w := by
  have H := Lib.hid h
  have c3 := h.head.c3
  by_cases hm : D.mayR k = 0
  · rw [if_pos hm]
    have hk : 0 ≤ k ∧ k < (D.lasts.length : Int) := by
      unfold Dsk.mayR at hm
      split at hm
      · split at hm
        · rename_i hh; simpa [Dsk.has] using hh
        · cases hm
      · cases hm
    obtain ⟨hk0, hk1⟩ := hk
    obtain ⟨m, rfl⟩ := Int.eq_ofNat_of_zero_le hk0
    have hlen := h.shp.len
    have hmost := h.shp.most
    have hm1 : m < D.now.length := by omega
    have hat : D.at_ (m : Int) = D.now[m] := by simp [Dsk.at_, List.getD, hm1]
    rw [hat]
    have hr : w.rangeAt y.N (m * 32) (bcells D.now[m]) := h.bod.rN m _ (by simp [hm1])
    have hsz : (D.now[m]).size = 32 := h.shp.blkN _ (List.getElem_mem hm1)
    have hna := h.shp.naE (by omega)
    have hnl : D.now.length = D.lasts.length := hlen
    rw [hna] at c3
    generalize D.now[m] = s at *
    have hcv : (convert 241 9 (.slice (some ⟨y.N, m * 32, none⟩) 32 32)).run Tryz.prog w = .ok (.string s) w := by
      rw [run_convert_bytes_string w _ _ 5 _ _ _ (by kernel_rfl) (by kernel_rfl) (by kernel_rfl)]
      exact run_bytes_is w y.N (m * 32) 32 32 s hsz hr
    have HM := Lib.hid hm
    have hb : (m : Int) < (D.now.length : Int) := by omega
    clear hm hr hsz hna hat h hlen hnl
    go_enter Tryz.func170, Tryz.ntmps170
    go_wp2_with (go_at_call 190; refine (mayR_is y D _ _ _ H.out).mono ?_; rintro e w' ⟨rfl, rfl⟩; rw [HM.out])
    go_ret2
    rw [HM.out]
    exact ⟨rfl, rfl⟩
  · rw [if_neg hm]
    have hb : (D.mayR k == 0) = false := by simpa using hm
    have hb' : (D.mayR k != 0) = true := by simpa using hm
    clear h hm
    go_enter Tryz.func170, Tryz.ntmps170
    go_wp2_with (go_at_call 190; refine (mayR_is y D _ _ _ H.out).mono ?_; rintro e w' ⟨rfl, rfl⟩)
    go_ret2
    exact ⟨rfl, rfl⟩
end Go.Proofs.YtiiioeodanmieaaGreatDoor.Sec
-- SecNew
namespace Go.Proofs.YtiiioeodanmieaaGreatDoor.Sec
open Go.RowKit

def zero32 : ByteArray := ⟨Array.replicate 32 0⟩
def newD (m : Nat) : Dsk := { on := true, lasts := List.replicate m zero32, now := List.replicate m zero32, waits := [], deeds := 0, lit := false, left := 0, keep := [] }
theorem blockInfo : (Tryz.prog.info? 254).map (fun i => (i.zero, i.size, i.bytes)) = some (some (.agg (Array.replicate 32 (.int .u8 0))), 32, 32) := by kernel_rfl

def zrows (m : Nat) : Array Value := madeCells (Array.replicate 32 (.int .u8 0)) (m * 32)
theorem zrows_at (m j : Nat) (h : j < m * 32) : (zrows m)[j]? = some (.int .u8 0) := by
  have : j % 32 < 32 := Nat.mod_lt _ (by omega)
  simp [zrows, madeCells, h, getElem!_def, this]
theorem bcells_zero : bcells zero32 = List.replicate 32 (.int .u8 0) := by simp [bcells, zero32]
theorem rows_new {w : World} {b m : Nat} (t : TypeId) (hb : w.heap[b]? = some (.cells (zrows m) t (0, 0))) : Rows w b 32 ((List.replicate m zero32).map bcells) := fun j x hx v u hv => by
  rw [List.getElem?_map, List.getElem?_replicate] at hx
  split at hx
  · rename_i hj
    obtain rfl : bcells zero32 = x := by simpa using hx
    rw [bcells_zero, List.getElem?_replicate] at hv
    split at hv
    · rename_i hu
      obtain rfl : Value.int .u8 0 = u := by simpa using hv
      have : j * 32 + 32 ≤ m * 32 := by omega
      rw [cell_of_row w b _ _ t (0, 0) hb]
      exact zrows_at m _ (by omega)
    · cases hv
  · cases hx
theorem there_new {w : World} {b m : Nat} (t : TypeId) (hb : w.heap[b]? = some (.cells (zrows m) t (0, 0))) : w.there b 0 (m * 32) := fun j hj => by
  refine ⟨?_, ?_⟩
  · rw [cell_of_row w b _ _ t (0, 0) hb, zrows_at m _ (by omega)]; rfl
  · simp [World.frozen?, hb]

abbrev newW (w : World) (m L N : Nat) : World :=
  ((w.alloc (.cells (zrows m) 254)).alloc (.cells (zrows m) 254)).alloc
    (.cells #[.bool true, .bool true, .slice (some ⟨L, 0, none⟩) m m, .slice (some ⟨N, 0, none⟩) m m, .slice none 0 0, .int .i64 0, .bool false, .int .i64 0, .slice none 0 0] 193)
theorem heapA (w : World) (o : Obj) : (w.alloc o).heap = w.heap.push o := rfl
theorem newW_blocks (w : World) (m L N : Nat) : (newW w m L N).heap[w.heap.size]? = some (.cells (zrows m) 254 (0, 0)) ∧ (newW w m L N).heap[w.heap.size + 1]? = some (.cells (zrows m) 254 (0, 0)) ∧
    (newW w m L N).heap[w.heap.size + 2]? = some (.cells #[.bool true, .bool true, .slice (some ⟨L, 0, none⟩) m m, .slice (some ⟨N, 0, none⟩) m m, .slice none 0 0, .int .i64 0, .bool false, .int .i64 0, .slice none 0 0] 193 (0, 0)) := by
  refine ⟨?_, ?_, ?_⟩
  · simp only [newW, heapA, Array.getElem?_push, Array.size_push]
    rw [if_neg (by omega), if_neg (by omega), if_pos trivial]
  · simp only [newW, heapA, Array.getElem?_push, Array.size_push]
    rw [if_neg (by omega), if_pos trivial]
  · simp only [newW, heapA, Array.getElem?_push, Array.size_push]
    rw [if_pos trivial]
theorem new_done (w : World) (m L N : Nat) (hm : m ≤ 3000) (hLN : (L = w.heap.size ∧ N = w.heap.size + 1) ∨ (L = w.heap.size + 1 ∧ N = w.heap.size)) :
    ∃ y : Lay, Ending.returned (.pointer (some ⟨w.heap.size + 1 + 1, 0, none⟩)) = .returned (.pointer (some ⟨y.p, 0, none⟩)) ∧ IsD (newW w m L N).drew y (newD m) ∧ (∀ b, y.foot b → w.heap.size ≤ b) ∧ Only (fun _ => False) w (newW w m L N).drew := by
  obtain ⟨b0, b1, b2⟩ := newW_blocks w m L N
  have bL : (newW w m L N).heap[L]? = some (.cells (zrows m) 254 (0, 0)) := by rcases hLN with ⟨rfl, _⟩ | ⟨rfl, _⟩ <;> assumption
  have bN : (newW w m L N).heap[N]? = some (.cells (zrows m) 254 (0, 0)) := by rcases hLN with ⟨_, rfl⟩ | ⟨_, rfl⟩ <;> assumption
  have hsz : (newW w m L N).heap.size = w.heap.size + 3 := by simp [newW]
  have hzl : ∀ b ∈ List.replicate m zero32, b.size = 32 := fun b hb => by rw [(List.mem_replicate.1 hb).2]; rfl
  refine ⟨{ p := w.heap.size + 2, L := L, N := N, W := w.heap.size + 2, K := w.heap.size + 2, cL := m, cN := m, cW := 0, cK := 0, la := some ⟨L, 0, none⟩, na := some ⟨N, 0, none⟩, wa := none, ka := none }, rfl, IsD.drew ⟨⟨?_, ?_⟩, ?_, ?_, ?_⟩, ?_, ?_⟩
  · intro j v hv
    rw [Nat.zero_add, cell_of_row _ _ _ _ _ _ b2]
    simpa [headc, newD] using hv
  · intro j hj
    rw [Nat.zero_add]
    refine ⟨?_, ?_⟩
    · rw [cell_of_row _ _ _ _ _ _ b2, Array.getElem?_eq_getElem (by simpa using hj)]; rfl
    · unfold World.frozen?
      rw [b2]
      simp
  · exact ⟨rows_new _ bL, rows_new _ bN, World.ownsRow_nil _ _ _ _, by simpa [newD] using there_new _ bL, by simpa [newD] using there_new _ bN, fun j z hz => by simp [newD] at hz⟩
  · exact ⟨by simp [newD], by simpa [newD] using hm, hzl, hzl, fun x hx => by simp [newD] at hx, by simp [newD], by simp [newD], by simp [newD], by simp [newD], by simp [newD], by simp [newD], by simp [newD],
      fun _ => rfl, fun _ => rfl, .inl rfl, fun q => by simp [newD] at q, fun _ => ⟨by simp; omega, by simp; omega, by simp; omega⟩, fun q => by simp at q, fun q => by simp [newD] at q⟩
  · intro b q
    rw [hsz]
    simp only [Lay.foot] at q
    omega
  · intro b q
    simp only [Lay.foot] at q
    omega
  · exact ((((Only.refl _ _).alloc _).alloc _).alloc _).drew

set_option maxHeartbeats 1000000 in
theorem New_is (n : Int) (w : World) :
    Calls Tryz.prog 113 #[.int .i64 n] w fun e w' => ∃ y : Lay, e = .returned (.pointer (some ⟨y.p, 0, none⟩)) ∧ IsD w' y (newD (min (max n 0) 3000).toNat) ∧ (∀ b, y.foot b → w.heap.size ≤ b) ∧ Only (fun _ => False) w w' := by
  obtain ⟨i0, hi, hz0, hz1, hz2⟩ := info_parts blockInfo
  have hmk : ∀ (m : Nat) (u : World), m ≤ 3000 → (Instr.makeSlice 188 (.int .i64 (m : Int)) (.int .i64 (m : Int))).run Tryz.prog u =
      .ok (.slice (some ⟨u.heap.size, 0, none⟩) m m) (u.alloc (.cells (zrows m) 254)) := fun m u hm => by
    have h := run_make (P := Tryz.prog) u 188 254 i0 _ Tryz.underlying188 hi hz0 .i64 .i64 (m : Int) (m : Int) (by omega) (Int.le_refl _) (by rw [hz2]; omega) (by omega)
    simpa [hz1, Value.cells, zrows] using h
  have key : ∀ (m : Nat), m ≤ 3000 → (min (max n 0) 3000).toNat = m → ((n < 0 ∧ m = 0) ∨ (0 ≤ n ∧ n ≤ 3000 ∧ n = m) ∨ (3000 < n ∧ m = 3000)) → Calls Tryz.prog 113 #[.int .i64 n] w fun e w' => ∃ y : Lay, e = .returned (.pointer (some ⟨y.p, 0, none⟩)) ∧ IsD w' y (newD m) ∧ (∀ b, y.foot b → w.heap.size ≤ b) ∧ Only (fun _ => False) w w' := by
    intro m hm _ hn
    have hm0 : ∀ u : World, (Instr.makeSlice 188 (.int .i64 0) (.int .i64 0)).run Tryz.prog u =
      .ok (.slice (some ⟨u.heap.size, 0, none⟩) 0 0) (u.alloc (.cells (zrows 0) 254)) := fun u => hmk 0 u (by omega)
    have hm3 : ∀ u : World, (Instr.makeSlice 188 (.int .i64 3000) (.int .i64 3000)).run Tryz.prog u =
      .ok (.slice (some ⟨u.heap.size, 0, none⟩) 3000 3000) (u.alloc (.cells (zrows 3000) 254)) := fun u => hmk 3000 u (by omega)
    have hmm : ∀ u : World, (Instr.makeSlice 188 (.int .i64 (m : Int)) (.int .i64 (m : Int))).run Tryz.prog u =
      .ok (.slice (some ⟨u.heap.size, 0, none⟩) m m) (u.alloc (.cells (zrows m) 254)) := fun u => hmk m u hm
    clear hi hz0 hz1 hz2 hmk
    rcases hn with ⟨h1, rfl⟩ | ⟨h1, h2, rfl⟩ | ⟨h1, rfl⟩
    all_goals
      go_enter Tryz.func113, Tryz.ntmps113
      go_wp2
      go_region
      all_goals
        go_wp2
        go_ret
        first
        | exact new_done w _ _ _ hm (.inl ⟨rfl, rfl⟩)
        | exact new_done w _ _ _ hm (.inr ⟨rfl, rfl⟩)
  exact key _ (by omega) rfl (by omega)
end Go.Proofs.YtiiioeodanmieaaGreatDoor.Sec
-- SecBlk
namespace Go.Proofs.YtiiioeodanmieaaGreatDoor.Sec
open Go.RowKit

theorem results_cell {P : Program} {fn : Func} {p : Tmp} {ty : TypeId} (h : fn.results = #[.cell p ty]) {tmps : Array Value} {a : Addr} {v : Value} {w : World} (hp : tmps.getD p undef = .pointer (some a))
    (hl : (loadVar ty a).run P w = .ok v w) : (results fn tmps).run P w = .ok v w := by
  simp only [results, h]
  have hp' : tmps[p]?.getD undef = .pointer (some a) := by simpa using hp
  simp [Sem.run_bind, Result.andThen, hp', asAddr, hl]
theorem bcells_one (b : ByteArray) : ∀ v ∈ bcells b, v.oneCell' = true := by
  intro v hv
  obtain ⟨x, _, rfl⟩ := List.mem_map.1 hv
  rfl
theorem blockSize : (Tryz.prog.info? 254).map (·.size) = some 32 := by kernel_rfl
theorem byteSize (w : World) : (Go.sizeOf 5).run Tryz.prog w = .ok 1 w := by kernel_rfl

set_option maxHeartbeats 1000000 in
theorem blockOf_is (b : ByteArray) (hb : b.size = 32) (w : World) :
    Calls Tryz.prog 207 #[.string b] w fun e w' => e = .returned (.agg (bcells b).toArray) ∧ Only (fun _ => False) w w' := by
  have key : ∀ C : Array Value, C.size = 32 →
      (∀ j, j < 32 → ((w.alloc (.cells C 254)).cell? ⟨w.heap.size, j, none⟩).isSome = true) ∧ (∀ j, (w.alloc (.cells C 254)).frozen? ⟨w.heap.size, j, none⟩ = false) := fun C hC => by
    refine ⟨fun j hj => ?_, fun j => by simp⟩
    rw [World.cell?_alloc_new, Array.getElem?_eq_getElem (by omega)]
    rfl
  have hcp : ∀ C : Array Value, C.size = 32 → (Builtin.copy_ #[241, 9] 3 #[.slice (some ⟨w.heap.size, 0, none⟩) 32 32, .string b]).run Tryz.prog (w.alloc (.cells C 254)) =
      .ok (.int .i64 32) ((w.alloc (.cells C 254)).setCells w.heap.size 0 (bcells b)) := fun C hC => by
    have := run_copy_string (P := Tryz.prog) (w.alloc (.cells C 254)) 241 9 3 5 w.heap.size 0 32 32 b Tryz.underlying241 byteSize (by omega)
      (fun j hj => by rw [Nat.zero_add]; exact (key C hC).1 j (by omega)) (fun j _ => (key C hC).2 _)
    rw [hb] at this
    exact this
  have hth : ∀ C : Array Value, C.size = 32 → ((w.alloc (.cells C 254)).setCells w.heap.size 0 (bcells b)).there w.heap.size 0 32 := fun C hC =>
    World.there_setCells (fun j hj => ⟨by rw [Nat.zero_add]; exact (key C hC).1 j hj, (key C hC).2 _⟩) _ _ _
  have hrg : ∀ C : Array Value, C.size = 32 → ((w.alloc (.cells C 254)).setCells w.heap.size 0 (bcells b)).rangeAt w.heap.size 0 (bcells b) := fun C hC =>
    World.rangeAt_setCells_same _ _ _ _ (fun j hj => by rw [bcells_len, hb] at hj; exact ⟨by rw [Nat.zero_add]; exact (key C hC).1 j hj, (key C hC).2 _⟩)
  have hbl : (Tryz.prog.info? 254).map (·.size) = some (bcells b).length := by rw [bcells_len, hb]; exact blockSize
  have HK := Lib.hid (And.intro hrg hth)
  have HB := Lib.hid hbl
  clear hrg hth key hbl
  go_enter Tryz.func207, Tryz.ntmps207
  go_wp2_with (first
    | (refine wpList_load_mid rfl 254 (.tmp 2) rfl w.heap.size 0 rfl (bcells b) _ (HK.out.1 _ rfl) Tryz.underlying254 rfl HB.out ?_)
    | (refine wpList_store_mid rfl 254 (.tmp 2) (.tmp 6) rfl w.heap.size 0 (bcells b).toArray rfl rfl (by simpa [bcells_len, hb] using HK.out.2 _ rfl) (by simpa using HB.out) (all_oneCell_toArray (bcells_one b)) ?_))
  refine bodyPost_ret (v := .agg (bcells b).toArray) (results_cell (p := 2) rfl rfl ?_) rfl ⟨rfl, ?_⟩
  · exact run_loadVar_mid (P := Tryz.prog) _ _ _ _ _ _ (World.rangeAt_setCells_same _ _ _ _ (by rw [bcells_len, hb]; refine HK.out.2 _ ?_; rfl)) Tryz.underlying254 rfl HB.out
  · exact Only.setCells (.inr (Nat.le_refl _)) _ _ (Only.setCells (.inr (Nat.le_refl _)) _ _ ((Only.refl _ _).alloc _))
end Go.Proofs.YtiiioeodanmieaaGreatDoor.Sec
-- SecPush
namespace Go.Proofs.YtiiioeodanmieaaGreatDoor.Sec
open Go.RowKit

theorem wcells_len (x : Nat × ByteArray) : (wcells x).length = x.2.size + 1 := by simp [wcells, bcells_len]
theorem wcells_one (x : Nat × ByteArray) : ∀ v ∈ wcells x, v.oneCell' = true := by
  intro v hv
  rcases List.mem_cons.1 hv with rfl | hv
  · rfl
  · exact bcells_one _ v hv

section
variable {w w' : World} {y : Lay} {D : Dsk}

theorem bmap_len {l : List ByteArray} (h : ∀ b ∈ l, b.size = 32) : ∀ x ∈ l.map bcells, x.length = 32 := by
  intro x hx
  obtain ⟨b, hb, rfl⟩ := List.mem_map.1 hx
  rw [bcells_len, h b hb]
theorem mem_set_size {l : List ByteArray} {m : Nat} {b : ByteArray} (h : ∀ b ∈ l, b.size = 32) (hb : b.size = 32) : ∀ x ∈ l.set m b, x.size = 32 := by
  intro x hx
  rcases List.mem_or_eq_of_mem_set hx with q | rfl
  · exact h x q
  · exact hb

theorem IsD.set_now (h : IsD w y D) (m : Nat) (hm : m < D.lasts.length) (b : ByteArray) (hb : b.size = 32) : IsD (w.setCells y.N (m * 32) (bcells b)) y { D with now := D.now.set m b } := by
  have hn := h.shp.nL (by omega)
  have o : ∀ k, k ≠ y.N → (w.setCells y.N (m * 32) (bcells b)).heap[k]? = w.heap[k]? := fun k hk => heap_setCells_ne _ _ _ _ _ hk
  have hW : y.wa ≠ none → (w.setCells y.N (m * 32) (bcells b)).heap[y.W]? = w.heap[y.W]? := fun q => o _ (h.shp.nW q).2.2
  have hK : 0 < D.keep.length → (w.setCells y.N (m * 32) (bcells b)).heap[y.K]? = w.heap[y.K]? := fun q => o _ (h.shp.nK q).2.2.1
  have hd := h.head.of_block (o _ (fun e => hn.2.1 e.symm))
  refine ⟨⟨?_, hd.thr⟩, ⟨rows_of_block (o _ hn.2.2) h.bod.rL, ?_, ?_, there_of_block (o _ hn.2.2) h.bod.tL, World.there_setCells h.bod.tN _ _ _, ?_⟩, ?_, fun k q => by rw [size_setCells']; exact h.small k q⟩
  · have := hd.rng
    simpa [headc] using this
  · have := rows_set h.bod.rN (bmap_len h.shp.blkN) h.bod.tN m hm (bcells b) (by rw [bcells_len, hb])
    simpa [List.map_set] using this
  · have := h.bod.oW
    refine ⟨this.1, ?_⟩
    rcases this.2 with q | ⟨g, cap, cur, hv, hg, hh, r⟩
    · exact .inl q
    · have hwa : y.wa = some ⟨g, 0, none⟩ := by simpa using congrArg (fun v => match v with | .slice a _ _ => a | _ => none) hv
      have hne : y.wa ≠ none := by rw [hwa]; simp
      have hg' : g = y.W := by
        rcases h.shp.waE with q | q
        · exact absurd q hne
        · rw [hwa] at q; simpa using q
      subst hg'
      exact .inr ⟨_, cap, cur, hv, hg, by rw [hW hne]; exact hh, r⟩
  · intro j z hz
    exact (World.cell?_of_block (w := w) (a := ⟨y.K, j, none⟩) (hK (Nat.lt_of_le_of_lt (Nat.zero_le _) (List.getElem?_eq_some_iff.1 hz).1))).trans (h.bod.rK j z hz)
  · have s := h.shp
    exact ⟨by simpa using s.len, s.most, s.blkL, mem_set_size s.blkN hb, s.blkW, s.deedsB, s.leftB, s.waitsB, s.capL, by simpa using s.capN, s.capK, s.keepB, s.laE, s.naE, s.waE, s.kaE, s.nL, s.nW, s.nK⟩

theorem IsD.set_lasts (h : IsD w y D) (m : Nat) (hm : m < D.lasts.length) (b : ByteArray) (hb : b.size = 32) : IsD (w.setCells y.L (m * 32) (bcells b)) y { D with lasts := D.lasts.set m b } := by
  have hn := h.shp.nL (by omega)
  have o : ∀ k, k ≠ y.L → (w.setCells y.L (m * 32) (bcells b)).heap[k]? = w.heap[k]? := fun k hk => heap_setCells_ne _ _ _ _ _ hk
  have hW : y.wa ≠ none → (w.setCells y.L (m * 32) (bcells b)).heap[y.W]? = w.heap[y.W]? := fun q => o _ (h.shp.nW q).2.1
  have hK : 0 < D.keep.length → (w.setCells y.L (m * 32) (bcells b)).heap[y.K]? = w.heap[y.K]? := fun q => o _ (h.shp.nK q).2.1
  have hd := h.head.of_block (o _ (fun e => hn.1 e.symm))
  have hNL : y.N ≠ y.L := fun e => hn.2.2 e.symm
  refine ⟨⟨?_, hd.thr⟩, ⟨?_, rows_of_block (o _ hNL) h.bod.rN, ?_, by simpa using World.there_setCells h.bod.tL _ _ _, by simpa using there_of_block (o _ hNL) h.bod.tN, ?_⟩, ?_, fun k q => by rw [size_setCells']; exact h.small k q⟩
  · have := hd.rng
    simpa [headc] using this
  · have := rows_set h.bod.rL (bmap_len h.shp.blkL) h.bod.tL m hm (bcells b) (by rw [bcells_len, hb])
    simpa [List.map_set] using this
  · have := h.bod.oW
    refine ⟨this.1, ?_⟩
    rcases this.2 with q | ⟨g, cap, cur, hv, hg, hh, r⟩
    · exact .inl q
    · have hwa : y.wa = some ⟨g, 0, none⟩ := by simpa using congrArg (fun v => match v with | .slice a _ _ => a | _ => none) hv
      have hne : y.wa ≠ none := by rw [hwa]; simp
      have hg' : g = y.W := by
        rcases h.shp.waE with q | q
        · exact absurd q hne
        · rw [hwa] at q; simpa using q
      subst hg'
      exact .inr ⟨_, cap, cur, hv, hg, by rw [hW hne]; exact hh, r⟩
  · intro j z hz
    exact (World.cell?_of_block (w := w) (a := ⟨y.K, j, none⟩) (hK (Nat.lt_of_le_of_lt (Nat.zero_le _) (List.getElem?_eq_some_iff.1 hz).1))).trans (h.bod.rK j z hz)
  · have s := h.shp
    exact ⟨by simpa using s.len, by simpa using s.most, mem_set_size s.blkL hb, s.blkN, by simpa using s.blkW, s.deedsB, s.leftB, s.waitsB, by simpa using s.capL, s.capN, s.capK, s.keepB, by simpa using s.laE, by simpa using s.naE, s.waE, s.kaE, by simpa using s.nL, s.nW, s.nK⟩

def Lay.newW (y : Lay) (g cap : Nat) : Lay := { y with W := g, cW := cap, wa := some ⟨g, 0, none⟩ }

theorem IsD.push_waits (h : IsD w y D) (x : Nat × ByteArray) (hx : x.2.size = 32 ∧ x.1 < D.lasts.length) (hB : D.waits.length + 1 < 2 ^ 40) (g cap : Nat)
    (hown : w'.ownsRow 0 281 33 (.slice (some ⟨g, 0, none⟩) (D.waits.length + 1) cap) (D.waits.length + 1) (D.waits.flatMap wcells ++ wcells x))
    (hgr : w.grownBy w' (Value.ownBlock (.slice y.wa D.waits.length y.cW))) (hat : Value.ownBlock (.slice y.wa D.waits.length y.cW) = some g ∨ w.heap.size ≤ g) (hlt : g < w'.heap.size) :
    IsD (w'.setCell ⟨y.p, 4, none⟩ (.slice (some ⟨g, 0, none⟩) (D.waits.length + 1) cap)) (y.newW g cap) { D with waits := D.waits ++ [x] } ∧
      (∀ b, (y.newW g cap).foot b → y.foot b ∨ w.heap.size ≤ b) ∧ Only y.foot w (w'.setCell ⟨y.p, 4, none⟩ (.slice (some ⟨g, 0, none⟩) (D.waits.length + 1) cap)) := by
  have s := h.shp
  have hob : ∀ k, Value.ownBlock (.slice y.wa D.waits.length y.cW) = some k → k = y.W ∧ y.wa ≠ none := fun k hk => by
    rcases s.waE with q | q
    · rw [q] at hk; simp [Value.ownBlock] at hk
    · rw [q] at hk ⊢; simp [Value.ownBlock] at hk; exact ⟨hk.symm, by simp⟩
  have hblk : ∀ k, k < w.heap.size → (y.wa ≠ none → k ≠ y.W) → w'.heap[k]? = w.heap[k]? := fun k hk hne => hgr.block k hk (fun e => by
    obtain ⟨e1, e2⟩ := hob k e.symm
    exact hne e2 e1)
  have hp := h.small y.p (.inl rfl)
  have hLs := h.small y.L (.inr (.inl rfl))
  have hNs := h.small y.N (.inr (.inr (.inl rfl)))
  have hKs := h.small y.K (.inr (.inr (.inr (.inr rfl))))
  have bp := hblk y.p hp (fun q e => (s.nW q).1 e.symm)
  have bL := hblk y.L hLs (fun q e => (s.nW q).2.1 e.symm)
  have bN := hblk y.N hNs (fun q e => (s.nW q).2.2 e.symm)
  have hd := h.head.of_block bp
  have gne : g ≠ y.p ∧ g ≠ y.L ∧ g ≠ y.N ∧ (0 < D.keep.length → y.K ≠ g) := by
    rcases hat with q | q
    · obtain ⟨rfl, e2⟩ := hob g q
      exact ⟨(s.nW e2).1, (s.nW e2).2.1, (s.nW e2).2.2, fun q => (s.nK q).2.2.2 e2⟩
    · exact ⟨by omega, by omega, by omega, fun _ => by omega⟩
  have o : ∀ k, k ≠ y.p → (w'.setCell ⟨y.p, 4, none⟩ (.slice (some ⟨g, 0, none⟩) (D.waits.length + 1) cap)).heap[k]? = w'.heap[k]? := fun k hk => heap_setCell_ne _ _ _ _ hk
  refine ⟨⟨⟨?_, there_set hd.thr _ _⟩, ⟨?_, ?_, ?_, ?_, ?_, ?_⟩, ?_, ?_⟩, ?_, ?_⟩
  · have := rangeAt_set (k := 4) hd.rng (.slice (some ⟨g, 0, none⟩) (D.waits.length + 1) cap)
    simpa [headc, Lay.newW] using this
  · intro j u hu
    exact rangeAt_of_block ((o _ (s.nL (by have := (List.getElem?_eq_some_iff.1 hu).1; simp at this; omega)).1).trans bL) (h.bod.rL j u hu)
  · intro j u hu
    exact rangeAt_of_block ((o _ (s.nL (by have := (List.getElem?_eq_some_iff.1 hu).1; have := s.len; simp at *; omega)).2.1).trans bN) (h.bod.rN j u hu)
  · have e : (D.waits ++ [x]).flatMap wcells = D.waits.flatMap wcells ++ wcells x := by simp
    refine ⟨by rw [e]; simpa using hown.1, ?_⟩
    rcases hown.2 with ⟨q, _⟩ | ⟨g', cap', cur, hv, hg, hh, r1, r2, r3, r4⟩
    · cases q
    · obtain ⟨rfl, rfl⟩ : g = g' ∧ cap = cap' := by simpa using hv
      refine .inr ⟨g, cap, cur, ?_, hg, by rw [o _ gne.1]; exact hh, by simpa using r1, r2, r3, ?_⟩
      · simp [Lay.newW]
      · rw [e]; simpa using r4
  · intro j hj
    exact there_of_block ((o _ (s.nL (by omega)).1).trans bL) h.bod.tL j hj
  · intro j hj
    exact there_of_block ((o _ (s.nL (by omega)).2.1).trans bN) h.bod.tN j hj
  · intro j z hz
    have h0 : 0 < D.keep.length := Nat.lt_of_le_of_lt (Nat.zero_le _) (List.getElem?_eq_some_iff.1 hz).1
    have hk := s.nK h0
    exact (World.cell?_of_block (w := w) (a := ⟨y.K, j, none⟩) ((o _ hk.1).trans (hblk _ hKs hk.2.2.2))).trans (h.bod.rK j z hz)
  · refine ⟨s.len, s.most, s.blkL, s.blkN, ?_, s.deedsB, s.leftB, by simpa using hB, s.capL, s.capN, s.capK, s.keepB, s.laE, s.naE, .inr rfl, s.kaE, s.nL, fun _ => ⟨gne.1, gne.2.1, gne.2.2.1⟩, fun q => ⟨(s.nK q).1, (s.nK q).2.1, (s.nK q).2.2.1, fun _ => gne.2.2.2 q⟩⟩
    intro u hu
    rcases List.mem_append.1 hu with q | q
    · exact s.blkW u q
    · obtain rfl : u = x := by simpa using q
      exact hx
  · intro k q
    rw [size_setCell']
    have hsz := hgr.size
    rcases q with q | q | q | q | q
    · have := h.small k (.inl q); omega
    · have := h.small k (.inr (.inl q)); omega
    · have := h.small k (.inr (.inr (.inl q))); omega
    · obtain rfl : k = g := q
      exact hlt
    · have := h.small k (.inr (.inr (.inr (.inr q)))); omega
  · intro k q
    rcases q with q | q | q | q | q
    · exact .inl (.inl q)
    · exact .inl (.inr (.inl q))
    · exact .inl (.inr (.inr (.inl q)))
    · obtain rfl : k = g := q
      rcases hat with q | q
      · exact .inl (.inr (.inr (.inr (.inl (hob _ q).1))))
      · exact .inr q
    · exact .inl (.inr (.inr (.inr (.inr q))))
  · exact ((Only.refl _ _).grown hgr (fun k hk => .inl (.inr (.inr (.inr (.inl (hob _ hk).1)))))).setCell (.inl (.inl rfl)) _
end

def Goes (y : Lay) (w : World) (D' : Dsk) (w' : World) : Prop :=
  ∃ y' : Lay, y'.p = y.p ∧ IsD w' y' D' ∧ (∀ b, y'.foot b → y.foot b ∨ w.heap.size ≤ b) ∧ Only y.foot w w'
theorem Goes.of {y : Lay} {w w' : World} {D : Dsk} (h : IsD w' y D) (o : Only y.foot w w') : Goes y w D w' := ⟨y, rfl, h, fun _ q => .inl q, o⟩
end Go.Proofs.YtiiioeodanmieaaGreatDoor.Sec
-- SecRow
namespace Go.Proofs.YtiiioeodanmieaaGreatDoor.Sec
open Go.RowKit

theorem writeInfo : (Tryz.prog.info? 281).map (fun i => (i.zero, i.size, i.bytes)) = some (some (.agg (#[.int .i64 0] ++ Array.replicate 32 (.int .u8 0))), 33, 40) := by kernel_rfl
theorem writeSize : (Tryz.prog.info? 281).map (·.size) = some 33 := by kernel_rfl
theorem list32 {l : List Value} (h : l.length = 32) : ∃ a0 a1 a2 a3 a4 a5 a6 a7 a8 a9 b0 b1 b2 b3 b4 b5 b6 b7 b8 b9 c0 c1 c2 c3 c4 c5 c6 c7 c8 c9 d0 d1,
    l = [a0, a1, a2, a3, a4, a5, a6, a7, a8, a9, b0, b1, b2, b3, b4, b5, b6, b7, b8, b9, c0, c1, c2, c3, c4, c5, c6, c7, c8, c9, d0, d1] := by
  match l, h with
  | [a0, a1, a2, a3, a4, a5, a6, a7, a8, a9, b0, b1, b2, b3, b4, b5, b6, b7, b8, b9, c0, c1, c2, c3, c4, c5, c6, c7, c8, c9, d0, d1], _ => exact ⟨_, _, _, _, _, _, _, _, _, _, _, _, _, _, _, _, _, _, _, _, _, _, _, _, _, _, _, _, _, _, _, _, rfl⟩
def warr (v : Value) (l : List Value) : Array Value := (v :: l).toArray
theorem warr_size (v : Value) (l : List Value) : (warr v l).size = l.length + 1 := by simp [warr]
theorem warr_list (v : Value) (l : List Value) : (warr v l).toList = v :: l := by simp [warr]
theorem build_write (i : Int) (l : List Value) (hl : l.length = 32) (w : World) :
    (Instr.build 281 #[(0, .int .i64 i), (1, .agg l.toArray)]).run Tryz.prog w = .ok (.agg (warr (.int .i64 i) l)) w := by
  obtain ⟨a0, a1, a2, a3, a4, a5, a6, a7, a8, a9, b0, b1, b2, b3, b4, b5, b6, b7, b8, b9, c0, c1, c2, c3, c4, c5, c6, c7, c8, c9, d0, d1, rfl⟩ := list32 hl
  kernel_rfl

theorem buildSlice_write (i : Int) (l : List Value) (hl : l.length = 32) (w : World) :
    (Instr.buildSlice 189 1 #[(0, .agg (warr (.int .i64 i) l))]).run Tryz.prog w = .ok (.slice (some ⟨w.heap.size, 0, none⟩) 1 1) (w.alloc (.cells (warr (.int .i64 i) l) 281)) := by
  obtain ⟨a0, a1, a2, a3, a4, a5, a6, a7, a8, a9, b0, b1, b2, b3, b4, b5, b6, b7, b8, b9, c0, c1, c2, c3, c4, c5, c6, c7, c8, c9, d0, d1, rfl⟩ := list32 hl
  kernel_rfl

theorem wpList_build_write {ops : Array Oper} {rest : List Oper} {op : Oper} {a : Act} {w : World} {Q : Exit → Act → World → Prop} (hgd : op.guard = none) (x y : Operand) (ho : op.op = .build 281 #[(0, x), (1, y)])
    (i : Int) (l : List Value) (hx : a.eval x = .int .i64 i) (hy : a.eval y = .agg l.toArray) (hl : l.length = 32)
    (h : wpList Tryz.prog ops Q rest (a.put op.dst (.agg (warr (.int .i64 i) l))) w) : wpList Tryz.prog ops Q (op :: rest) a w :=
  wpList_plain hgd fun _ hK => by
    have hr := build_write i l hl w
    unfold Oper.wp execOp
    simp [ho, hx, hy, Sem.run_bind, Sem.run_pure, Result.andThen_ok, hr]
    exact hK _ _ h

theorem wpList_store_new {P : Program} {ops : Array Oper} {rest : List Oper} {op : Oper} {a : Act} {w : World} {Q : Exit → Act → World → Prop} (hgd : op.guard = none) (ty : TypeId) (x y : Operand) (ho : op.op = .store ty x y)
    (C c' : Array Value) (hx : a.eval x = .pointer (some ⟨w.heap.size, 0, none⟩)) (hy : a.eval y = .agg c') (hi : (P.info? ty).map (·.size) = some c'.size) (hs : C.size = c'.size) (h1 : c'.all (·.oneCell') = true)
    (h : wpList P ops Q rest (a.put op.dst undef) (w.alloc (.cells c' ty))) : wpList P ops Q (op :: rest) a (w.alloc (.cells C ty)) :=
  wpList_plain hgd fun _ hK => by
    have hr := run_storeVar_new (P := P) w ty C c' hi hs h1
    unfold Oper.wp execOp
    simp only [ho, hx, hy, Instr.storeAt, Instr.sureAddr, Sem.run_bind, Sem.run_pure, Result.andThen_ok, hr]
    exact hK _ _ h

def isRow (u : World) (v : Value) (n : Nat) : Prop := ∃ b o cs, v = .pointer (some ⟨b, o, none⟩) ∧ u.rangeAt b o cs ∧ cs.length = n
def rowAt (u : World) (v : Value) (n : Nat) : List Value := match v with
  | .pointer (some a) => (List.range n).map fun j => (u.cell? ⟨a.block, a.off + j, none⟩).getD undef
  | _ => []
theorem rowAt_eq {u : World} {b o n : Nat} {cs : List Value} (h : u.rangeAt b o cs) (hl : cs.length = n) : rowAt u (.pointer (some ⟨b, o, none⟩)) n = cs := by
  subst hl
  refine List.ext_getElem (by simp [rowAt]) fun j h1 h2 => ?_
  have := h j cs[j] (List.getElem?_eq_getElem h2)
  simp [rowAt, this]
theorem load_write {dst : Option Tmp} {tt : TypeId} {pos : String} {after : Array Edge} {guard : Option (Nat × Bool)} {x : Operand} {f : Operand → Value} {u : World} (h : isRow u (f x) 33) :
    (execOp f ⟨dst, .load 281 x, tt, pos, after, guard⟩).run Tryz.prog u = .ok (.value (.agg (rowAt u (f x) 33).toArray)) u := by
  obtain ⟨b, o, cs, hx, hr, hl⟩ := h
  unfold execOp
  simp only [hx, rowAt_eq hr hl, Instr.loadAt, Instr.sureAddr, Sem.run_bind, Sem.run_pure, Result.andThen_ok, run_loadVar_mid (P := Tryz.prog) _ _ _ _ _ _ hr Tryz.underlying281 rfl (by rw [hl]; exact writeSize)]

def isAgg (v : Value) (n : Nat) : Prop := ∃ A, v = .agg A ∧ A.size = n
theorem buildSlice_cons (v : Value) (l : List Value) (hl : l.length = 32) (w : World) :
    (Instr.buildSlice 189 1 #[(0, .agg (v :: l).toArray)]).run Tryz.prog w = .ok (.slice (some ⟨w.heap.size, 0, none⟩) 1 1) (w.alloc (.cells (v :: l).toArray 281)) := by
  obtain ⟨a0, a1, a2, a3, a4, a5, a6, a7, a8, a9, b0, b1, b2, b3, b4, b5, b6, b7, b8, b9, c0, c1, c2, c3, c4, c5, c6, c7, c8, c9, d0, d1, rfl⟩ := list32 hl
  kernel_rfl
theorem buildSlice_any (A : Array Value) (hA : A.size = 33) (w : World) :
    (Instr.buildSlice 189 1 #[(0, .agg A)]).run Tryz.prog w = .ok (.slice (some ⟨w.heap.size, 0, none⟩) 1 1) (w.alloc (.cells A 281)) := by
  obtain ⟨l⟩ := A
  match l, hA with
  | v :: r, h => exact buildSlice_cons v r (by simpa using h) w
theorem buildSlice_op {dst : Option Tmp} {tt : TypeId} {pos : String} {after : Array Edge} {guard : Option (Nat × Bool)} {x : Operand} {f : Operand → Value} {u : World} (h : isAgg (f x) 33) :
    (execOp f ⟨dst, .buildSlice 189 1 #[(0, x)], tt, pos, after, guard⟩).run Tryz.prog u = .ok (.value (.slice (some ⟨u.heap.size, 0, none⟩) 1 1)) (u.alloc (.cells (f x).cells 281)) := by
  obtain ⟨A, hx, hA⟩ := h
  have := buildSlice_any A hA u
  unfold execOp
  simp [hx, Sem.run_bind, Sem.run_pure, Result.andThen_ok, this, Value.cells]

theorem flat_at {l : List (Nat × ByteArray)} (hl : ∀ x ∈ l, x.2.size = 32) : ∀ {k : Nat} {x : Nat × ByteArray}, l[k]? = some x → ∀ j v, (wcells x)[j]? = some v → (l.flatMap wcells)[k * 33 + j]? = some v := by
  induction l with
  | nil => intro k x hx; simp at hx
  | cons a r ih =>
    intro k x hx j v hv
    have ha : (wcells a).length = 33 := by rw [wcells_len, hl a (by simp)]
    cases k with
    | zero =>
      obtain rfl : a = x := by simpa using hx
      rw [List.flatMap_cons, Nat.zero_mul, Nat.zero_add, List.getElem?_append_left (List.getElem?_eq_some_iff.1 hv).1]
      exact hv
    | succ k =>
      rw [List.flatMap_cons, List.getElem?_append_right (by rw [ha]; omega), ha, show (k + 1) * 33 + j - 33 = k * 33 + j by omega]
      exact ih (fun x hx => hl x (by simp [hx])) (by simpa using hx) j v hv
theorem IsD.wait_at {w : World} {y : Lay} {D : Dsk} (h : IsD w y D) {k : Nat} {x : Nat × ByteArray} (hx : D.waits[k]? = some x) :
    y.wa = some ⟨y.W, 0, none⟩ ∧ w.rangeAt y.W (k * 33) (wcells x) := by
  have hk : k < D.waits.length := (List.getElem?_eq_some_iff.1 hx).1
  have o := h.bod.oW
  have hwa : y.wa = some ⟨y.W, 0, none⟩ := by
    rcases h.shp.waE with q | q
    · obtain ⟨g, cap, hv, _, _⟩ := o.form (by omega)
      rw [q] at hv
      simp at hv
    · exact q
  refine ⟨hwa, fun j v hv => ?_⟩
  rw [hwa] at o
  have hxs : x.2.size = 32 := (h.shp.blkW x (List.mem_of_getElem? hx)).1
  have hj : j < 33 := by have := (List.getElem?_eq_some_iff.1 hv).1; rw [wcells_len, hxs] at this; exact this
  rw [o.cellAt (k * 33 + j) (by have := Nat.mul_le_mul_right 33 (show k + 1 ≤ D.waits.length from hk); omega)]
  exact flat_at (fun x hx => (h.shp.blkW x hx).1) hx j v hv
end Go.Proofs.YtiiioeodanmieaaGreatDoor.Sec
