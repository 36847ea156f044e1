import Derived.Test.YtbghglkplbnnkaaGreatDoorProg
import Derived.WalkKit
import Derived.Handy
import Derived.Deep.MidRow
import Derived.Deep.LoopGhost
import Derived.Lib.Hide
import Derived.RegionTactic
import Derived.ChangeAlike
import Derived.Deep.WholeRow
import Derived.Lib.LazyBuf
import Derived.Deep.AppendLies
import Derived.Deep.RegionHeld3
import Derived.Deep.RegionHeldLaw
import Derived.OwnWalk
set_option linter.unusedVariables false
set_option linter.unusedSimpArgs false
-- SecMem
namespace Go.Proofs.YtbghglkplbnnkaaGreatDoor.Sec
open Go.RowKit

structure Only (F : Nat → Prop) (w w' : World) : Prop where
  os : w'.os = w.os
  tape : w'.tape = w.tape
  output : w'.output = w.output
  size : w.heap.size ≤ w'.heap.size
  block : ∀ k, k < w.heap.size → ¬ F k → w'.heap[k]? = w.heap[k]?

theorem Only.refl (F : Nat → Prop) (w : World) : Only F w w := ⟨rfl, rfl, rfl, Nat.le_refl _, fun _ _ _ => rfl⟩
theorem Only.trans {F G : Nat → Prop} {a b c : World} (h : Only F a b) (k : Only G b c) (hG : ∀ i, i < a.heap.size → G i → F i) : Only F a c :=
  ⟨k.os.trans h.os, k.tape.trans h.tape, k.output.trans h.output, Nat.le_trans h.size k.size,
    fun i hi hF => (k.block i (Nat.lt_of_lt_of_le hi h.size) (fun g => hF (hG i hi g))).trans (h.block i hi hF)⟩
theorem Only.mono {F G : Nat → Prop} {a b : World} (h : Only F a b) (hG : ∀ i, i < a.heap.size → F i → G i) : Only G a b :=
  ⟨h.os, h.tape, h.output, h.size, fun i hi hF => h.block i hi (fun f => hF (hG i hi f))⟩
theorem Only.drew {F : Nat → Prop} {a w : World} (h : Only F a w) : Only F a w.drew := ⟨h.os, h.tape, h.output, h.size, h.block⟩
theorem Only.alloc {F : Nat → Prop} {a w : World} (h : Only F a w) (o : Obj) : Only F a (w.alloc o) :=
  ⟨h.os, h.tape, h.output, by have := h.size; simp; omega, fun k hk hF => by have := h.size; rw [Below.heap_alloc _ _ _ (by omega)]; exact h.block k hk hF⟩
theorem Only.setCell {F : Nat → Prop} {a w : World} (h : Only F a w) {p : Addr} (hp : F p.block ∨ a.heap.size ≤ p.block) (u : Value) : Only F a (w.setCell p u) :=
  ⟨h.os, h.tape, h.output, by have := h.size; simp [World.setCell]; omega, fun k hk hF => by
    rw [Below.heap_setCell _ _ _ _ (fun e => by rcases hp with hp | hp; exact hF (e ▸ hp); omega)]; exact h.block k hk hF⟩
theorem Only.setCells {F : Nat → Prop} {a : World} {b : Nat} (hp : F b ∨ a.heap.size ≤ b) : ∀ (vs : List Value) (o : Nat) {w : World}, Only F a w → Only F a (w.setCells b o vs)
  | [], _, _, h => h
  | v :: r, o, _, h => Only.setCells hp r (o + 1) (h.setCell (p := ⟨b, o, none⟩) hp v)
theorem Only.grown {F : Nat → Prop} {a w w' : World} {row : Option Nat} (h : Only F a w) (hg : w.grownBy w' row) (hr : ∀ k, row = some k → F k ∨ a.heap.size ≤ k) : Only F a w' :=
  ⟨hg.os.trans h.os, hg.tape.trans h.tape, hg.output.trans h.output, Nat.le_trans h.size hg.size, fun k hk hF =>
    (hg.block k (Nat.lt_of_lt_of_le hk h.size) (fun e => by rcases hr k e.symm with r | r; exact hF r; omega)).trans (h.block k hk hF)⟩
theorem Only.below {F : Nat → Prop} {w w' : World} (h : Only F w w') {B : Nat} (hF : ∀ k, F k → B ≤ k) (hB : B ≤ w.heap.size) : Below B w w' :=
  ⟨h.os, h.tape, h.output, h.size, fun k hk => h.block k (by omega) (fun f => by have := hF k f; omega)⟩
def Rows (w : World) (b k : Nat) (l : List (List Value)) : Prop := ∀ j x, l[j]? = some x → w.rangeAt b (j * k) x

theorem rangeAt_of_block {w w' : World} {b o : Nat} {cs : List Value} (hb : w'.heap[b]? = w.heap[b]?) (h : w.rangeAt b o cs) : w'.rangeAt b o cs :=
  fun j v hv => (World.cell?_of_block (w := w) (a := ⟨b, o + j, none⟩) hb).trans (h j v hv)
theorem there_of_block {w w' : World} {b o n : Nat} (hb : w'.heap[b]? = w.heap[b]?) (h : w.there b o n) : w'.there b o n :=
  fun j hj => ⟨by rw [World.cell?_of_block (w := w) (a := ⟨b, o + j, none⟩) hb]; exact (h j hj).1, by rw [World.frozen?_of_block (w := w) (a := ⟨b, o + j, none⟩) hb]; exact (h j hj).2⟩
theorem rows_of_block {w w' : World} {b k : Nat} {l : List (List Value)} (hb : w'.heap[b]? = w.heap[b]?) (h : Rows w b k l) : Rows w' b k l :=
  fun j x hx => rangeAt_of_block hb (h j x hx)

theorem rangeAt_set {w : World} {b k : Nat} {cs : List Value} (h : w.rangeAt b 0 cs) (v : Value) : (w.setCell ⟨b, k, none⟩ v).rangeAt b 0 (cs.set k v) := fun j u hu => by
  simp only [List.getElem?_set] at hu
  split at hu
  · rename_i e
    subst e
    split at hu
    · rename_i hk
      obtain rfl : v = u := by simpa using hu
      have h0 := h k _ (List.getElem?_eq_getElem hk)
      simp only [Nat.zero_add] at h0 ⊢
      exact World.cell?_setCell_same _ _ _ h0
    · cases hu
  · rename_i e
    rw [World.cell?_setCell_other _ _ _ _ (by simp)]
    exact h j u hu
theorem there_set {w : World} {b o n : Nat} (h : w.there b o n) (p : Addr) (v : Value) : (w.setCell p v).there b o n := fun j hj => by
  obtain ⟨h1, h2⟩ := h j hj
  refine ⟨?_, by rw [World.frozen?_setCell]; exact h2⟩
  obtain ⟨u, hu⟩ := Option.isSome_iff_exists.1 h1
  by_cases e : p = ⟨b, o + j, none⟩
  · subst e; rw [World.cell?_setCell_same _ _ _ hu]; rfl
  · rw [World.cell?_setCell_other _ _ _ _ e, hu]; rfl

theorem rows_set {w : World} {b k n : Nat} {l : List (List Value)} (h : Rows w b k l) (hl : ∀ x ∈ l, x.length = k) (ht : w.there b 0 (n * k)) (i : Nat) (hi : i < n) (vs : List Value) (hv : vs.length = k) :
    Rows (w.setCells b (i * k) vs) b k (l.set i vs) := fun j x hx => by
  have hst : w.there b (i * k) vs.length := fun m hm => by
    have : i * k + k ≤ n * k := by have := Nat.mul_le_mul_right k (show i + 1 ≤ n by omega); rw [Nat.add_mul] at this; omega
    have := ht (i * k + m) (by omega)
    simpa using this
  simp only [List.getElem?_set] at hx
  split at hx
  · rename_i e
    subst e
    split at hx
    · obtain rfl : vs = x := by simpa using hx
      exact World.rangeAt_setCells_same w b (i * k) vs hst
    · cases hx
  · rename_i e
    have hxl := hl x (List.mem_of_getElem? hx)
    refine World.rangeAt_setCells_apart (h j x hx) b (i * k) vs (.inr ?_)
    rw [hxl, hv]
    rcases Nat.lt_or_gt_of_ne e with e | e
    · right; have := Nat.mul_le_mul_right k (show i + 1 ≤ j by omega); rw [Nat.add_mul] at this; omega
    · left; have := Nat.mul_le_mul_right k (show j + 1 ≤ i by omega); rw [Nat.add_mul] at this; omega
structure Dsk where
  on : Bool
  lasts : List ByteArray
  now : List ByteArray
  waits : List (Nat × ByteArray)
  deeds : Nat
  lit : Bool
  left : Nat
  keep : List Int

def bcells (b : ByteArray) : List Value := b.data.toList.map fun x => .int .u8 (x.toNat : Int)
def wcells (x : Nat × ByteArray) : List Value := .int .i64 (x.1 : Int) :: bcells x.2
theorem bcells_len (b : ByteArray) : (bcells b).length = b.size := by simp [bcells]

structure Lay where
  p : Nat
  L : Nat
  N : Nat
  W : Nat
  K : Nat
  cL : Nat
  cN : Nat
  cW : Nat
  cK : Nat
  la : Option Addr
  na : Option Addr
  wa : Option Addr
  ka : Option Addr

def Lay.foot (y : Lay) (b : Nat) : Prop := b = y.p ∨ b = y.L ∨ b = y.N ∨ b = y.W ∨ b = y.K

def headc (y : Lay) (D : Dsk) : List Value :=
  [.bool true, .bool D.on, .slice y.la D.lasts.length y.cL, .slice y.na D.now.length y.cN, .slice y.wa D.waits.length y.cW, .int .i64 (D.deeds : Int), .bool D.lit, .int .i64 (D.left : Int), .slice y.ka D.keep.length y.cK]

structure Head (w : World) (y : Lay) (D : Dsk) : Prop where
  rng : w.rangeAt y.p 0 (headc y D)
  thr : w.there y.p 0 9

structure Bod (w : World) (y : Lay) (D : Dsk) : Prop where
  rL : Rows w y.L 32 (D.lasts.map bcells)
  rN : Rows w y.N 32 (D.now.map bcells)
  oW : w.ownsRow 0 220 33 (.slice y.wa D.waits.length y.cW) D.waits.length (D.waits.flatMap wcells)
  tL : w.there y.L 0 (D.lasts.length * 32)
  tN : w.there y.N 0 (D.lasts.length * 32)
  rK : ∀ j z, D.keep[j]? = some z → w.cell? ⟨y.K, j, none⟩ = some (.int .i64 z)

structure Shp (y : Lay) (D : Dsk) : Prop where
  len : D.now.length = D.lasts.length
  most : D.lasts.length ≤ 3000
  blkL : ∀ b ∈ D.lasts, b.size = 32
  blkN : ∀ b ∈ D.now, b.size = 32
  blkW : ∀ x ∈ D.waits, x.2.size = 32 ∧ x.1 < D.lasts.length
  deedsB : D.deeds < 2 ^ 60
  leftB : D.left < 2 ^ 63
  waitsB : D.waits.length < 2 ^ 40
  capL : D.lasts.length ≤ y.cL
  capN : D.now.length ≤ y.cN
  capK : D.keep.length ≤ y.cK
  keepB : D.keep.length < 2 ^ 62
  laE : 0 < D.lasts.length → y.la = some ⟨y.L, 0, none⟩
  naE : 0 < D.lasts.length → y.na = some ⟨y.N, 0, none⟩
  waE : y.wa = none ∨ y.wa = some ⟨y.W, 0, none⟩
  kaE : 0 < D.keep.length → y.ka = some ⟨y.K, 0, none⟩
  nL : 0 < D.lasts.length → y.L ≠ y.p ∧ y.N ≠ y.p ∧ y.L ≠ y.N
  nW : y.wa ≠ none → y.W ≠ y.p ∧ y.W ≠ y.L ∧ y.W ≠ y.N
  nK : 0 < D.keep.length → y.K ≠ y.p ∧ y.K ≠ y.L ∧ y.K ≠ y.N ∧ (y.wa ≠ none → y.K ≠ y.W)

structure IsD (w : World) (y : Lay) (D : Dsk) : Prop where
  head : Head w y D
  bod : Bod w y D
  shp : Shp y D
  small : ∀ b, y.foot b → b < w.heap.size

section
variable {w w' : World} {y : Lay} {D : Dsk}
theorem Head.c0 (h : Head w y D) : w.cell? ⟨y.p, 0, none⟩ = some (.bool true) := by simpa using h.rng 0 _ rfl
theorem Head.c1 (h : Head w y D) : w.cell? ⟨y.p, 1, none⟩ = some (.bool D.on) := by simpa using h.rng 1 _ rfl
theorem Head.c2 (h : Head w y D) : w.cell? ⟨y.p, 2, none⟩ = some (.slice y.la D.lasts.length y.cL) := by simpa using h.rng 2 _ rfl
theorem Head.c3 (h : Head w y D) : w.cell? ⟨y.p, 3, none⟩ = some (.slice y.na D.now.length y.cN) := by simpa using h.rng 3 _ rfl
theorem Head.c4 (h : Head w y D) : w.cell? ⟨y.p, 4, none⟩ = some (.slice y.wa D.waits.length y.cW) := by simpa using h.rng 4 _ rfl
theorem Head.c5 (h : Head w y D) : w.cell? ⟨y.p, 5, none⟩ = some (.int .i64 (D.deeds : Int)) := by simpa using h.rng 5 _ rfl
theorem Head.c6 (h : Head w y D) : w.cell? ⟨y.p, 6, none⟩ = some (.bool D.lit) := by simpa using h.rng 6 _ rfl
theorem Head.c7 (h : Head w y D) : w.cell? ⟨y.p, 7, none⟩ = some (.int .i64 (D.left : Int)) := by simpa using h.rng 7 _ rfl
theorem Head.c8 (h : Head w y D) : w.cell? ⟨y.p, 8, none⟩ = some (.slice y.ka D.keep.length y.cK) := by simpa using h.rng 8 _ rfl
theorem Head.fz (h : Head w y D) (j : Nat) (hj : j < 9) : w.frozen? ⟨y.p, j, none⟩ = false := by simpa using (h.thr j hj).2
theorem Head.of_block (h : Head w y D) (hb : w'.heap[y.p]? = w.heap[y.p]?) : Head w' y D := ⟨rangeAt_of_block hb h.rng, there_of_block hb h.thr⟩

theorem Bod.of_blocks (h : Bod w y D) (s : Shp y D) (hL : 0 < D.lasts.length → w'.heap[y.L]? = w.heap[y.L]? ∧ w'.heap[y.N]? = w.heap[y.N]?) (hW : y.wa ≠ none → w'.heap[y.W]? = w.heap[y.W]?)
    (hK : 0 < D.keep.length → w'.heap[y.K]? = w.heap[y.K]?) : Bod w' y D where
  rL := fun j x hx => rangeAt_of_block (hL (by have := (List.getElem?_eq_some_iff.1 hx).1; simp at this; omega)).1 (h.rL j x hx)
  rN := fun j x hx => rangeAt_of_block (hL (by have := (List.getElem?_eq_some_iff.1 hx).1; have := s.len; simp at *; omega)).2 (h.rN j x hx)
  oW := by
    refine ⟨h.oW.1, ?_⟩
    rcases h.oW.2 with q | ⟨g, cap, cur, hv, hg, hh, r⟩
    · exact .inl q
    · have hwa : y.wa = some ⟨g, 0, none⟩ := by simpa using congrArg (fun v => match v with | .slice a _ _ => a | _ => none) hv
      have hne : y.wa ≠ none := by rw [hwa]; simp
      have hg' : g = y.W := by
        rcases s.waE with q | q
        · exact absurd q hne
        · rw [hwa] at q; simpa using q
      subst hg'
      exact .inr ⟨_, cap, cur, hv, hg, by rw [hW hne]; exact hh, r⟩
  tL := fun j hj => there_of_block (hL (by omega)).1 h.tL j hj
  tN := fun j hj => there_of_block (hL (by omega)).2 h.tN j hj
  rK := fun j z hz => by
    have hb := hK (by have := (List.getElem?_eq_some_iff.1 hz).1; omega)
    rw [World.cell?_of_block (w := w) (a := ⟨y.K, j, none⟩) hb]
    exact h.rK j z hz
theorem Bod.off_p (h : Bod w y D) (s : Shp y D) (hb : ∀ b, b ≠ y.p → w'.heap[b]? = w.heap[b]?) : Bod w' y D :=
  h.of_blocks s (fun h0 => ⟨hb _ (s.nL h0).1, hb _ (s.nL h0).2.1⟩) (fun h0 => hb _ (s.nW h0).1) (fun h0 => hb _ (s.nK h0).1)
theorem IsD.of_blocks (h : IsD w y D) (hs : w.heap.size ≤ w'.heap.size) (hb : ∀ b, y.foot b → w'.heap[b]? = w.heap[b]?) : IsD w' y D :=
  ⟨h.head.of_block (hb _ (.inl rfl)), h.bod.of_blocks h.shp (fun _ => ⟨hb _ (.inr (.inl rfl)), hb _ (.inr (.inr (.inl rfl)))⟩) (fun _ => hb _ (.inr (.inr (.inr (.inl rfl))))) (fun _ => hb _ (.inr (.inr (.inr (.inr rfl))))),
    h.shp, fun b q => Nat.lt_of_lt_of_le (h.small b q) hs⟩
theorem IsD.only {F : Nat → Prop} (h : IsD w y D) (o : Only F w w') (hF : ∀ b, y.foot b → ¬ F b) : IsD w' y D :=
  h.of_blocks o.size fun b q => o.block b (h.small b q) (hF b q)
theorem IsD.alloc (h : IsD w y D) (o : Obj) : IsD (w.alloc o) y D := h.of_blocks (by simp) fun b q => Below.heap_alloc _ _ _ (h.small b q)
theorem IsD.drew (h : IsD w y D) : IsD w.drew y D := h.of_blocks (by simp) fun _ _ => rfl

theorem heap_setCell_ne (w : World) (a : Addr) (u : Value) (k : Nat) (h : k ≠ a.block) : (w.setCell a u).heap[k]? = w.heap[k]? := Below.heap_setCell w a u k h
theorem size_setCell' (w : World) (a : Addr) (u : Value) : (w.setCell a u).heap.size = w.heap.size := by simp [World.setCell]
theorem size_setCells' (b : Nat) : ∀ (vs : List Value) (o : Nat) (w : World), (w.setCells b o vs).heap.size = w.heap.size
  | [], _, _ => rfl
  | v :: r, o, w => by rw [World.setCells, size_setCells' b r, size_setCell']
theorem heap_setCells_ne (b : Nat) : ∀ (vs : List Value) (o : Nat) (w : World) (k : Nat), k ≠ b → (w.setCells b o vs).heap[k]? = w.heap[k]?
  | [], _, _, _, _ => rfl
  | v :: r, o, w, k, h => by rw [World.setCells, heap_setCells_ne b r _ _ k h, heap_setCell_ne _ _ _ _ h]

theorem IsD.set_on (h : IsD w y D) (v : Bool) : IsD (w.setCell ⟨y.p, 1, none⟩ (.bool v)) y { D with on := v } :=
  ⟨⟨rangeAt_set (k := 1) h.head.rng _, there_set h.head.thr _ _⟩,
    (fun b : Bod (w.setCell ⟨y.p, 1, none⟩ (.bool v)) y D => ⟨b.rL, b.rN, b.oW, b.tL, b.tN, b.rK⟩) (h.bod.off_p h.shp fun b hb => heap_setCell_ne _ _ _ _ hb),
    (fun s : Shp y D => ⟨s.len, s.most, s.blkL, s.blkN, s.blkW, s.deedsB, s.leftB, s.waitsB, s.capL, s.capN, s.capK, s.keepB, s.laE, s.naE, s.waE, s.kaE, s.nL, s.nW, s.nK⟩) h.shp,
    fun b q => by rw [size_setCell']; exact h.small b q⟩
theorem IsD.set_deeds (h : IsD w y D) (n : Nat) (hn : n < 2 ^ 60) : IsD (w.setCell ⟨y.p, 5, none⟩ (.int .i64 (n : Int))) y { D with deeds := n } :=
  ⟨⟨rangeAt_set (k := 5) h.head.rng _, there_set h.head.thr _ _⟩,
    (fun b : Bod (w.setCell ⟨y.p, 5, none⟩ (.int .i64 (n : Int))) y D => ⟨b.rL, b.rN, b.oW, b.tL, b.tN, b.rK⟩) (h.bod.off_p h.shp fun b hb => heap_setCell_ne _ _ _ _ hb),
    (fun s : Shp y D => ⟨s.len, s.most, s.blkL, s.blkN, s.blkW, hn, s.leftB, s.waitsB, s.capL, s.capN, s.capK, s.keepB, s.laE, s.naE, s.waE, s.kaE, s.nL, s.nW, s.nK⟩) h.shp,
    fun b q => by rw [size_setCell']; exact h.small b q⟩
theorem IsD.set_left (h : IsD w y D) (n : Nat) (hn : n < 2 ^ 63) : IsD (w.setCell ⟨y.p, 7, none⟩ (.int .i64 (n : Int))) y { D with left := n } :=
  ⟨⟨rangeAt_set (k := 7) h.head.rng _, there_set h.head.thr _ _⟩,
    (fun b : Bod (w.setCell ⟨y.p, 7, none⟩ (.int .i64 (n : Int))) y D => ⟨b.rL, b.rN, b.oW, b.tL, b.tN, b.rK⟩) (h.bod.off_p h.shp fun b hb => heap_setCell_ne _ _ _ _ hb),
    (fun s : Shp y D => ⟨s.len, s.most, s.blkL, s.blkN, s.blkW, s.deedsB, hn, s.waitsB, s.capL, s.capN, s.capK, s.keepB, s.laE, s.naE, s.waE, s.kaE, s.nL, s.nW, s.nK⟩) h.shp,
    fun b q => by rw [size_setCell']; exact h.small b q⟩
def Lay.noW (y : Lay) : Lay := { y with W := y.p, cW := 0, wa := none }
theorem IsD.set_noW (h : IsD w y D) : IsD (w.setCell ⟨y.p, 4, none⟩ (.slice none 0 0)) y.noW { D with waits := [] } :=
  ⟨⟨rangeAt_set (k := 4) h.head.rng _, there_set h.head.thr _ _⟩,
    (fun b : Bod (w.setCell ⟨y.p, 4, none⟩ (.slice none 0 0)) y D => ⟨b.rL, b.rN, World.ownsRow_nil _ _ _ _, b.tL, b.tN, b.rK⟩) (h.bod.off_p h.shp fun b hb => heap_setCell_ne _ _ _ _ hb),
    (fun s : Shp y D => ⟨s.len, s.most, s.blkL, s.blkN, fun x hx => by simp at hx, s.deedsB, s.leftB, by simp, s.capL, s.capN, s.capK, s.keepB, s.laE, s.naE, (.inl rfl), s.kaE, s.nL, fun q => by simp [Lay.noW] at q,
      fun q => ⟨(s.nK q).1, (s.nK q).2.1, (s.nK q).2.2.1, fun r => by simp [Lay.noW] at r⟩⟩) h.shp,
    fun b q => by
      rw [size_setCell']
      refine h.small b ?_
      rcases q with q | q | q | q | q
      · exact .inl q
      · exact .inr (.inl q)
      · exact .inr (.inr (.inl q))
      · exact .inl q
      · exact .inr (.inr (.inr (.inr q)))⟩
def Lay.noK (y : Lay) : Lay := { y with K := y.p, cK := 0, ka := none }
theorem IsD.set_noK (h : IsD w y D) : IsD (((w.setCell ⟨y.p, 6, none⟩ (.bool false)).setCell ⟨y.p, 7, none⟩ (.int .i64 0)).setCell ⟨y.p, 8, none⟩ (.slice none 0 0)) y.noK { D with lit := false, left := 0, keep := [] } :=
  ⟨⟨rangeAt_set (k := 8) (rangeAt_set (k := 7) (rangeAt_set (k := 6) h.head.rng _) _) _, there_set (there_set (there_set h.head.thr _ _) _ _) _ _⟩,
    (fun b : Bod (((w.setCell ⟨y.p, 6, none⟩ (.bool false)).setCell ⟨y.p, 7, none⟩ (.int .i64 0)).setCell ⟨y.p, 8, none⟩ (.slice none 0 0)) y D => ⟨b.rL, b.rN, b.oW, b.tL, b.tN, fun j x hx => by simp at hx⟩) (h.bod.off_p h.shp fun b hb => by rw [heap_setCell_ne _ _ _ _ hb, heap_setCell_ne _ _ _ _ hb, heap_setCell_ne _ _ _ _ hb]),
    (fun s : Shp y D => ⟨s.len, s.most, s.blkL, s.blkN, s.blkW, s.deedsB, by simp, s.waitsB, s.capL, s.capN, by simp, by simp, s.laE, s.naE, s.waE, fun q => by simp at q, s.nL, s.nW, fun q => by simp at q⟩) h.shp,
    fun b q => by
      rw [size_setCell', size_setCell', size_setCell']
      refine h.small b ?_
      rcases q with q | q | q | q | q
      · exact .inl q
      · exact .inr (.inl q)
      · exact .inr (.inr (.inl q))
      · exact .inr (.inr (.inr (.inl q)))
      · exact .inl q⟩
end
end Go.Proofs.YtbghglkplbnnkaaGreatDoor.Sec
-- SecRead
namespace Go.Proofs.YtbghglkplbnnkaaGreatDoor.Sec
open Go.RowKit

set_option maxHeartbeats 400000 in
theorem none_is (y : Lay) (D : Dsk) (w : World) (h : IsD w y D) :
    Calls Tryz.prog 99 #[.pointer (some ⟨y.p, 0, none⟩)] w fun e w' => e = .returned (.bool false) ∧ w' = w := by
  have c0 := h.head.c0
  go_enter Tryz.func99, Tryz.ntmps99
  go_wp2
  go_ret
  exact ⟨rfl, rfl⟩

set_option maxHeartbeats 400000 in
theorem fills_is (s : ByteArray) (w : World) :
    Calls Tryz.prog 150 #[.string s] w fun e w' => e = .returned (.bool (s.size == 32)) ∧ w' = w := by
  cases hb : (s.size == 32)
  all_goals
    have h1 : (((s.size : Nat) : Int) == 32) = (s.size == 32) := by
      rw [Bool.eq_iff_iff]; simp; omega
    rw [hb] at h1
    go_enter Tryz.func150, Tryz.ntmps150
    go_wp2
    go_ret
    exact ⟨rfl, rfl⟩

def Dsk.has (D : Dsk) (k : Int) : Bool := decide (0 ≤ k ∧ k < (D.lasts.length : Int))

set_option maxHeartbeats 400000 in
theorem has_is (y : Lay) (D : Dsk) (k : Int) (w : World) (h : IsD w y D) :
    Calls Tryz.prog 151 #[.pointer (some ⟨y.p, 0, none⟩), .int .i64 k] w fun e w' => e = .returned (.bool (D.has k)) ∧ w' = w := by
  have c2 := h.head.c2
  have hl := h.shp.most
  cases hb : D.has k
  · simp only [Dsk.has, decide_eq_false_iff_not] at hb
    by_cases h0 : 0 ≤ k
    · have h1 : ¬ k < (D.lasts.length : Int) := fun h => hb ⟨h0, h⟩
      clear hb h
      go_enter Tryz.func151, Tryz.ntmps151
      go_wp2
      go_ret
      exact ⟨rfl, rfl⟩
    · clear hb h
      go_enter Tryz.func151, Tryz.ntmps151
      go_wp2
      go_ret
      exact ⟨rfl, rfl⟩
  · simp only [Dsk.has, decide_eq_true_eq] at hb
    obtain ⟨h0, h1⟩ := hb
    clear h
    go_enter Tryz.func151, Tryz.ntmps151
    go_wp2
    go_ret
    exact ⟨rfl, rfl⟩

def Dsk.mayW (D : Dsk) (k : Int) (b : ByteArray) : Int := if D.on then (if D.has k && b.size == 32 then 0 else 1) else 3
def Dsk.mayR (D : Dsk) (k : Int) : Int := if D.on then (if D.has k then 0 else 1) else 3
def Dsk.mayB (D : Dsk) : Int := if D.on then 0 else 3

set_option maxHeartbeats 1000000 in
theorem mayW_is (y : Lay) (D : Dsk) (k : Int) (b : ByteArray) (w : World) (h : IsD w y D) :
    Calls Tryz.prog 126 #[.pointer (some ⟨y.p, 0, none⟩), .int .i64 0, .int .i64 k, .string b] w fun e w' => e = .returned (.int .i64 (D.mayW k b)) ∧ w' = w := by
  have c1 := h.head.c1
  unfold Dsk.mayW
  have H := Lib.hid h
  clear h
  cases ho : D.on <;> cases hh : D.has k <;> cases hb : (b.size == 32)
  all_goals
    rw [ho] at c1
    have HB := Lib.hid (And.intro hh hb)
    clear ho hh hb
    go_enter Tryz.func126, Tryz.ntmps126
    go_wp2_with (first | (go_at_call 99; refine (none_is y D _ H.out).mono ?_; rintro e w' ⟨rfl, rfl⟩) | (go_at_call 150; refine (fills_is b _).mono ?_; rintro e w' ⟨rfl, rfl⟩; rw [HB.out.2]) | (go_at_call 151; refine (has_is y D k _ H.out).mono ?_; rintro e w' ⟨rfl, rfl⟩; rw [HB.out.1]))
    go_ret
    exact ⟨rfl, rfl⟩

set_option maxHeartbeats 1000000 in
theorem mayR_is (y : Lay) (D : Dsk) (k : Int) (b : ByteArray) (w : World) (h : IsD w y D) :
    Calls Tryz.prog 126 #[.pointer (some ⟨y.p, 0, none⟩), .int .i64 1, .int .i64 k, .string b] w fun e w' => e = .returned (.int .i64 (D.mayR k)) ∧ w' = w := by
  have c1 := h.head.c1
  unfold Dsk.mayR
  have H := Lib.hid h
  clear h
  cases ho : D.on <;> cases hh : D.has k
  all_goals
    rw [ho] at c1
    have HB := Lib.hid hh
    clear ho hh
    go_enter Tryz.func126, Tryz.ntmps126
    go_wp2_with (first | (go_at_call 99; refine (none_is y D _ H.out).mono ?_; rintro e w' ⟨rfl, rfl⟩) | (go_at_call 151; refine (has_is y D k _ H.out).mono ?_; rintro e w' ⟨rfl, rfl⟩; rw [HB.out]))
    go_ret
    exact ⟨rfl, rfl⟩

set_option maxHeartbeats 1000000 in
theorem mayB_is (y : Lay) (D : Dsk) (k : Int) (b : ByteArray) (w : World) (h : IsD w y D) :
    Calls Tryz.prog 126 #[.pointer (some ⟨y.p, 0, none⟩), .int .i64 2, .int .i64 k, .string b] w fun e w' => e = .returned (.int .i64 D.mayB) ∧ w' = w := by
  have c1 := h.head.c1
  unfold Dsk.mayB
  have H := Lib.hid h
  clear h
  cases ho : D.on
  all_goals
    rw [ho] at c1
    clear ho
    go_enter Tryz.func126, Tryz.ntmps126
    go_wp2_with (go_at_call 99; refine (none_is y D _ H.out).mono ?_; rintro e w' ⟨rfl, rfl⟩)
    go_ret
    exact ⟨rfl, rfl⟩

set_option maxHeartbeats 400000 in
theorem On_is (y : Lay) (D : Dsk) (w : World) (h : IsD w y D) :
    Calls Tryz.prog 106 #[.pointer (some ⟨y.p, 0, none⟩)] w fun e w' => e = .returned (.bool D.on) ∧ w' = w := by
  have c1 := h.head.c1
  have H := Lib.hid h
  clear h
  cases ho : D.on
  all_goals
    rw [ho] at c1
    clear ho
    go_enter Tryz.func106, Tryz.ntmps106
    go_wp2_with (go_at_call 99; refine (none_is y D _ H.out).mono ?_; rintro e w' ⟨rfl, rfl⟩)
    go_ret
    exact ⟨rfl, rfl⟩

set_option maxHeartbeats 400000 in
theorem Len_is (y : Lay) (D : Dsk) (w : World) (h : IsD w y D) :
    Calls Tryz.prog 88 #[.pointer (some ⟨y.p, 0, none⟩)] w fun e w' => e = .returned (.int .i64 (D.lasts.length : Int)) ∧ w' = w := by
  have cc := h.head.c2
  have H := Lib.hid h
  clear h
  go_enter Tryz.func88, Tryz.ntmps88
  go_wp2_with (go_at_call 99; refine (none_is y D _ H.out).mono ?_; rintro e w' ⟨rfl, rfl⟩)
  go_ret
  exact ⟨rfl, rfl⟩
end Go.Proofs.YtbghglkplbnnkaaGreatDoor.Sec
-- SecMore
namespace Go.Proofs.YtbghglkplbnnkaaGreatDoor.Sec
open Go.RowKit

def Dsk.fallsNow (D : Dsk) : Bool := D.lit && D.left == 0
def Dsk.down (D : Dsk) : Dsk := if D.lit then { D with left := D.left - 1 } else D
theorem Only.foot_p {y : Lay} {w : World} (k : Nat) (v : Value) : Only y.foot w (w.setCell ⟨y.p, k, none⟩ v) := (Only.refl _ _).setCell (.inl (.inl rfl)) _

set_option maxHeartbeats 1000000 in
theorem falls_yes (y : Lay) (D : Dsk) (w : World) (h : IsD w y D) (hf : D.fallsNow = true) :
    Calls Tryz.prog 142 #[.pointer (some ⟨y.p, 0, none⟩)] w fun e w' => e = .returned (.bool true) ∧ w' = w := by
  have c6 := h.head.c6
  have c7 := h.head.c7
  simp only [Dsk.fallsNow, Bool.and_eq_true, beq_iff_eq] at hf
  obtain ⟨h1, h2⟩ := hf
  rw [h1] at c6
  rw [h2] at c7
  clear h h1 h2
  go_enter Tryz.func142, Tryz.ntmps142
  go_wp2
  go_ret
  exact ⟨rfl, rfl⟩

set_option maxHeartbeats 1000000 in
theorem falls_no (y : Lay) (D : Dsk) (w : World) (h : IsD w y D) (hf : D.fallsNow = false) :
    Calls Tryz.prog 142 #[.pointer (some ⟨y.p, 0, none⟩)] w fun e w' => e = .returned (.bool false) ∧ IsD w' y D.down ∧ Only y.foot w w' := by
  have c6 := h.head.c6
  have c7 := h.head.c7
  have f7 := h.head.fz 7 (by omega)
  have hB := h.shp.leftB
  cases hl : D.lit
  · rw [hl] at c6
    have HH := Lib.hid (And.intro h hl)
    clear h hl hf
    go_enter Tryz.func142, Tryz.ntmps142
    go_wp2
    go_ret
    refine ⟨rfl, ?_, Only.refl _ _⟩
    rw [Dsk.down, HH.out.2]
    exact HH.out.1
  · rw [hl] at c6
    have hn : 0 < D.left := by simp [Dsk.fallsNow, hl] at hf; omega
    have h0 : (((D.left : Nat) : Int) == 0) = false := by simp; omega
    have HH := Lib.hid (And.intro h hl)
    clear h hl hf
    go_enter Tryz.func142, Tryz.ntmps142
    go_wp2
    go_ret
    refine ⟨rfl, ?_, Only.foot_p _ _⟩
    rw [Dsk.down, if_pos HH.out.2]
    have := HH.out.1.set_left (D.left - 1) (by omega)
    rw [show ((D.left - 1 : Nat) : Int) = (D.left : Int) - 1 by omega] at this
    exact this

theorem foldl_push (ns : List UInt8) : ∀ (s : ByteArray), (ns.map fun x => (x.toNat : Int)).foldl (fun r n => r.push (UInt8.ofNat n.toNat)) s = ⟨s.data ++ ns.toArray⟩ := by
  induction ns with
  | nil => intro s; simp
  | cons x ns ih =>
    intro s
    simp only [List.map_cons, List.foldl_cons, ih]
    simp [ByteArray.push]
theorem run_bytes_is {P : Program} (w : World) (b o n cap : Nat) (s : ByteArray) (hn : s.size = n) (hr : w.rangeAt b o (bcells s)) :
    (Conv.bytesToString (.slice (some ⟨b, o, none⟩) n cap)).run P w = .ok (.string s) w := by
  have hl : (loadCells ⟨b, o, none⟩ n).run P w = .ok ((s.data.toList.map fun x => (x.toNat : Int)).map (Value.int .u8)).toArray w := by
    have := run_loadCells_list (P := P) w ⟨b, o, none⟩ (bcells s) (fun j v hv => by rw [Addr.add_mid]; exact hr j v hv)
    rw [bcells_len, hn] at this
    rw [this]
    simp [bcells, Function.comp_def]
  rw [run_bytesToString w _ n cap _ hl, foldl_push]
  simp

def Dsk.at_ (D : Dsk) (k : Int) : ByteArray := D.now.getD k.toNat ByteArray.empty

set_option maxHeartbeats 1000000 in
theorem Read_is (y : Lay) (D : Dsk) (k : Int) (w : World) (h : IsD w y D) :
    Calls Tryz.prog 107 #[.pointer (some ⟨y.p, 0, none⟩), .int .i64 k] w fun e w' =>
      e = .returned (.tuple #[.string (if D.mayR k = 0 then D.at_ k else ByteArray.empty), .int .i64 (D.mayR k)]) ∧ w' = w := by
  have H := Lib.hid h
  have c3 := h.head.c3
  by_cases hm : D.mayR k = 0
  · rw [if_pos hm]
    have hk : 0 ≤ k ∧ k < (D.lasts.length : Int) := by
      unfold Dsk.mayR at hm
      split at hm
      · split at hm
        · rename_i hh; simpa [Dsk.has] using hh
        · cases hm
      · cases hm
    obtain ⟨hk0, hk1⟩ := hk
    obtain ⟨m, rfl⟩ := Int.eq_ofNat_of_zero_le hk0
    have hlen := h.shp.len
    have hmost := h.shp.most
    have hm1 : m < D.now.length := by omega
    have hat : D.at_ (m : Int) = D.now[m] := by simp [Dsk.at_, List.getD, hm1]
    rw [hat]
    have hr : w.rangeAt y.N (m * 32) (bcells D.now[m]) := h.bod.rN m _ (by simp [hm1])
    have hsz : (D.now[m]).size = 32 := h.shp.blkN _ (List.getElem_mem hm1)
    have hna := h.shp.naE (by omega)
    have hnl : D.now.length = D.lasts.length := hlen
    rw [hna] at c3
    generalize D.now[m] = s at *
    have hcv : (convert 178 9 (.slice (some ⟨y.N, m * 32, none⟩) 32 32)).run Tryz.prog w = .ok (.string s) w := by
      rw [run_convert_bytes_string w _ _ 5 _ _ _ (by kernel_rfl) (by kernel_rfl) (by kernel_rfl)]
      exact run_bytes_is w y.N (m * 32) 32 32 s hsz hr
    have HM := Lib.hid hm
    have hb : (m : Int) < (D.now.length : Int) := by omega
    clear hm hr hsz hna hat h hlen hnl
    go_enter Tryz.func107, Tryz.ntmps107
    go_wp2_with (go_at_call 126; refine (mayR_is y D _ _ _ H.out).mono ?_; rintro e w' ⟨rfl, rfl⟩; rw [HM.out])
    go_ret2
    rw [HM.out]
    exact ⟨rfl, rfl⟩
  · rw [if_neg hm]
    have hb : (D.mayR k == 0) = false := by simpa using hm
    have hb' : (D.mayR k != 0) = true := by simpa using hm
    clear h hm
    go_enter Tryz.func107, Tryz.ntmps107
    go_wp2_with (go_at_call 126; refine (mayR_is y D _ _ _ H.out).mono ?_; rintro e w' ⟨rfl, rfl⟩)
    go_ret2
    exact ⟨rfl, rfl⟩
end Go.Proofs.YtbghglkplbnnkaaGreatDoor.Sec
-- SecNew
namespace Go.Proofs.YtbghglkplbnnkaaGreatDoor.Sec
open Go.RowKit

def zero32 : ByteArray := ⟨Array.replicate 32 0⟩
def newD (m : Nat) : Dsk := { on := true, lasts := List.replicate m zero32, now := List.replicate m zero32, waits := [], deeds := 0, lit := false, left := 0, keep := [] }
theorem blockInfo : (Tryz.prog.info? 190).map (fun i => (i.zero, i.size, i.bytes)) = some (some (.agg (Array.replicate 32 (.int .u8 0))), 32, 32) := by kernel_rfl

def zrows (m : Nat) : Array Value := madeCells (Array.replicate 32 (.int .u8 0)) (m * 32)
theorem zrows_at (m j : Nat) (h : j < m * 32) : (zrows m)[j]? = some (.int .u8 0) := by
  have : j % 32 < 32 := Nat.mod_lt _ (by omega)
  simp [zrows, madeCells, h, getElem!_def, this]
theorem bcells_zero : bcells zero32 = List.replicate 32 (.int .u8 0) := by simp [bcells, zero32]
theorem rows_new {w : World} {b m : Nat} (t : TypeId) (hb : w.heap[b]? = some (.cells (zrows m) t (0, 0))) : Rows w b 32 ((List.replicate m zero32).map bcells) := fun j x hx v u hv => by
  rw [List.getElem?_map, List.getElem?_replicate] at hx
  split at hx
  · rename_i hj
    obtain rfl : bcells zero32 = x := by simpa using hx
    rw [bcells_zero, List.getElem?_replicate] at hv
    split at hv
    · rename_i hu
      obtain rfl : Value.int .u8 0 = u := by simpa using hv
      have : j * 32 + 32 ≤ m * 32 := by omega
      rw [cell_of_row w b _ _ t (0, 0) hb]
      exact zrows_at m _ (by omega)
    · cases hv
  · cases hx
theorem there_new {w : World} {b m : Nat} (t : TypeId) (hb : w.heap[b]? = some (.cells (zrows m) t (0, 0))) : w.there b 0 (m * 32) := fun j hj => by
  refine ⟨?_, ?_⟩
  · rw [cell_of_row w b _ _ t (0, 0) hb, zrows_at m _ (by omega)]; rfl
  · simp [World.frozen?, hb]

abbrev newW (w : World) (m L N : Nat) : World :=
  ((w.alloc (.cells (zrows m) 190)).alloc (.cells (zrows m) 190)).alloc
    (.cells #[.bool true, .bool true, .slice (some ⟨L, 0, none⟩) m m, .slice (some ⟨N, 0, none⟩) m m, .slice none 0 0, .int .i64 0, .bool false, .int .i64 0, .slice none 0 0] 130)
theorem heapA (w : World) (o : Obj) : (w.alloc o).heap = w.heap.push o := rfl
theorem newW_blocks (w : World) (m L N : Nat) : (newW w m L N).heap[w.heap.size]? = some (.cells (zrows m) 190 (0, 0)) ∧ (newW w m L N).heap[w.heap.size + 1]? = some (.cells (zrows m) 190 (0, 0)) ∧
    (newW w m L N).heap[w.heap.size + 2]? = some (.cells #[.bool true, .bool true, .slice (some ⟨L, 0, none⟩) m m, .slice (some ⟨N, 0, none⟩) m m, .slice none 0 0, .int .i64 0, .bool false, .int .i64 0, .slice none 0 0] 130 (0, 0)) := by
  refine ⟨?_, ?_, ?_⟩
  · simp only [newW, heapA, Array.getElem?_push, Array.size_push]
    rw [if_neg (by omega), if_neg (by omega), if_pos trivial]
  · simp only [newW, heapA, Array.getElem?_push, Array.size_push]
    rw [if_neg (by omega), if_pos trivial]
  · simp only [newW, heapA, Array.getElem?_push, Array.size_push]
    rw [if_pos trivial]
theorem new_done (w : World) (m L N : Nat) (hm : m ≤ 3000) (hLN : (L = w.heap.size ∧ N = w.heap.size + 1) ∨ (L = w.heap.size + 1 ∧ N = w.heap.size)) :
    ∃ y : Lay, Ending.returned (.pointer (some ⟨w.heap.size + 1 + 1, 0, none⟩)) = .returned (.pointer (some ⟨y.p, 0, none⟩)) ∧ IsD (newW w m L N).drew y (newD m) ∧ (∀ b, y.foot b → w.heap.size ≤ b) ∧ Only (fun _ => False) w (newW w m L N).drew := by
  obtain ⟨b0, b1, b2⟩ := newW_blocks w m L N
  have bL : (newW w m L N).heap[L]? = some (.cells (zrows m) 190 (0, 0)) := by rcases hLN with ⟨rfl, _⟩ | ⟨rfl, _⟩ <;> assumption
  have bN : (newW w m L N).heap[N]? = some (.cells (zrows m) 190 (0, 0)) := by rcases hLN with ⟨_, rfl⟩ | ⟨_, rfl⟩ <;> assumption
  have hsz : (newW w m L N).heap.size = w.heap.size + 3 := by simp [newW]
  have hzl : ∀ b ∈ List.replicate m zero32, b.size = 32 := fun b hb => by rw [(List.mem_replicate.1 hb).2]; rfl
  refine ⟨{ p := w.heap.size + 2, L := L, N := N, W := w.heap.size + 2, K := w.heap.size + 2, cL := m, cN := m, cW := 0, cK := 0, la := some ⟨L, 0, none⟩, na := some ⟨N, 0, none⟩, wa := none, ka := none }, rfl, IsD.drew ⟨⟨?_, ?_⟩, ?_, ?_, ?_⟩, ?_, ?_⟩
  · intro j v hv
    rw [Nat.zero_add, cell_of_row _ _ _ _ _ _ b2]
    simpa [headc, newD] using hv
  · intro j hj
    rw [Nat.zero_add]
    refine ⟨?_, ?_⟩
    · rw [cell_of_row _ _ _ _ _ _ b2, Array.getElem?_eq_getElem (by simpa using hj)]; rfl
    · unfold World.frozen?
      rw [b2]
      simp
  · exact ⟨rows_new _ bL, rows_new _ bN, World.ownsRow_nil _ _ _ _, by simpa [newD] using there_new _ bL, by simpa [newD] using there_new _ bN, fun j z hz => by simp [newD] at hz⟩
  · exact ⟨by simp [newD], by simpa [newD] using hm, hzl, hzl, fun x hx => by simp [newD] at hx, by simp [newD], by simp [newD], by simp [newD], by simp [newD], by simp [newD], by simp [newD], by simp [newD],
      fun _ => rfl, fun _ => rfl, .inl rfl, fun q => by simp [newD] at q, fun _ => ⟨by simp; omega, by simp; omega, by simp; omega⟩, fun q => by simp at q, fun q => by simp [newD] at q⟩
  · intro b q
    rw [hsz]
    simp only [Lay.foot] at q
    omega
  · intro b q
    simp only [Lay.foot] at q
    omega
  · exact ((((Only.refl _ _).alloc _).alloc _).alloc _).drew

set_option maxHeartbeats 1000000 in
theorem New_is (n : Int) (w : World) :
    Calls Tryz.prog 60 #[.int .i64 n] w fun e w' => ∃ y : Lay, e = .returned (.pointer (some ⟨y.p, 0, none⟩)) ∧ IsD w' y (newD (min (max n 0) 3000).toNat) ∧ (∀ b, y.foot b → w.heap.size ≤ b) ∧ Only (fun _ => False) w w' := by
  obtain ⟨i0, hi, hz0, hz1, hz2⟩ := info_parts blockInfo
  have hmk : ∀ (m : Nat) (u : World), m ≤ 3000 → (Instr.makeSlice 125 (.int .i64 (m : Int)) (.int .i64 (m : Int))).run Tryz.prog u =
      .ok (.slice (some ⟨u.heap.size, 0, none⟩) m m) (u.alloc (.cells (zrows m) 190)) := fun m u hm => by
    have h := run_make (P := Tryz.prog) u 125 190 i0 _ Tryz.underlying125 hi hz0 .i64 .i64 (m : Int) (m : Int) (by omega) (Int.le_refl _) (by rw [hz2]; omega) (by omega)
    simpa [hz1, Value.cells, zrows] using h
  have key : ∀ (m : Nat), m ≤ 3000 → (min (max n 0) 3000).toNat = m → ((n < 0 ∧ m = 0) ∨ (0 ≤ n ∧ n ≤ 3000 ∧ n = m) ∨ (3000 < n ∧ m = 3000)) → Calls Tryz.prog 60 #[.int .i64 n] w fun e w' => ∃ y : Lay, e = .returned (.pointer (some ⟨y.p, 0, none⟩)) ∧ IsD w' y (newD m) ∧ (∀ b, y.foot b → w.heap.size ≤ b) ∧ Only (fun _ => False) w w' := by
    intro m hm _ hn
    have hm0 : ∀ u : World, (Instr.makeSlice 125 (.int .i64 0) (.int .i64 0)).run Tryz.prog u =
      .ok (.slice (some ⟨u.heap.size, 0, none⟩) 0 0) (u.alloc (.cells (zrows 0) 190)) := fun u => hmk 0 u (by omega)
    have hm3 : ∀ u : World, (Instr.makeSlice 125 (.int .i64 3000) (.int .i64 3000)).run Tryz.prog u =
      .ok (.slice (some ⟨u.heap.size, 0, none⟩) 3000 3000) (u.alloc (.cells (zrows 3000) 190)) := fun u => hmk 3000 u (by omega)
    have hmm : ∀ u : World, (Instr.makeSlice 125 (.int .i64 (m : Int)) (.int .i64 (m : Int))).run Tryz.prog u =
      .ok (.slice (some ⟨u.heap.size, 0, none⟩) m m) (u.alloc (.cells (zrows m) 190)) := fun u => hmk m u hm
    clear hi hz0 hz1 hz2 hmk
    rcases hn with ⟨h1, rfl⟩ | ⟨h1, h2, rfl⟩ | ⟨h1, rfl⟩
    all_goals
      go_enter Tryz.func60, Tryz.ntmps60
      go_wp2
      go_region
      all_goals
        go_wp2
        go_ret
        first
        | exact new_done w _ _ _ hm (.inl ⟨rfl, rfl⟩)
        | exact new_done w _ _ _ hm (.inr ⟨rfl, rfl⟩)
  exact key _ (by omega) rfl (by omega)
end Go.Proofs.YtbghglkplbnnkaaGreatDoor.Sec
-- SecBlk
namespace Go.Proofs.YtbghglkplbnnkaaGreatDoor.Sec
open Go.RowKit

theorem results_cell {P : Program} {fn : Func} {p : Tmp} {ty : TypeId} (h : fn.results = #[.cell p ty]) {tmps : Array Value} {a : Addr} {v : Value} {w : World} (hp : tmps.getD p undef = .pointer (some a))
    (hl : (loadVar ty a).run P w = .ok v w) : (results fn tmps).run P w = .ok v w := by
  simp only [results, h]
  have hp' : tmps[p]?.getD undef = .pointer (some a) := by simpa using hp
  simp [Sem.run_bind, Result.andThen, hp', asAddr, hl]
theorem bcells_one (b : ByteArray) : ∀ v ∈ bcells b, v.oneCell' = true := by
  intro v hv
  obtain ⟨x, _, rfl⟩ := List.mem_map.1 hv
  rfl
theorem blockSize : (Tryz.prog.info? 190).map (·.size) = some 32 := by kernel_rfl
theorem byteSize (w : World) : (Go.sizeOf 5).run Tryz.prog w = .ok 1 w := by kernel_rfl

set_option maxHeartbeats 1000000 in
theorem blockOf_is (b : ByteArray) (hb : b.size = 32) (w : World) :
    Calls Tryz.prog 141 #[.string b] w fun e w' => e = .returned (.agg (bcells b).toArray) ∧ Only (fun _ => False) w w' := by
  have key : ∀ C : Array Value, C.size = 32 →
      (∀ j, j < 32 → ((w.alloc (.cells C 190)).cell? ⟨w.heap.size, j, none⟩).isSome = true) ∧ (∀ j, (w.alloc (.cells C 190)).frozen? ⟨w.heap.size, j, none⟩ = false) := fun C hC => by
    refine ⟨fun j hj => ?_, fun j => by simp⟩
    rw [World.cell?_alloc_new, Array.getElem?_eq_getElem (by omega)]
    rfl
  have hcp : ∀ C : Array Value, C.size = 32 → (Builtin.copy_ #[178, 9] 3 #[.slice (some ⟨w.heap.size, 0, none⟩) 32 32, .string b]).run Tryz.prog (w.alloc (.cells C 190)) =
      .ok (.int .i64 32) ((w.alloc (.cells C 190)).setCells w.heap.size 0 (bcells b)) := fun C hC => by
    have := run_copy_string (P := Tryz.prog) (w.alloc (.cells C 190)) 178 9 3 5 w.heap.size 0 32 32 b Tryz.underlying178 byteSize (by omega)
      (fun j hj => by rw [Nat.zero_add]; exact (key C hC).1 j (by omega)) (fun j _ => (key C hC).2 _)
    rw [hb] at this
    exact this
  have hth : ∀ C : Array Value, C.size = 32 → ((w.alloc (.cells C 190)).setCells w.heap.size 0 (bcells b)).there w.heap.size 0 32 := fun C hC =>
    World.there_setCells (fun j hj => ⟨by rw [Nat.zero_add]; exact (key C hC).1 j hj, (key C hC).2 _⟩) _ _ _
  have hrg : ∀ C : Array Value, C.size = 32 → ((w.alloc (.cells C 190)).setCells w.heap.size 0 (bcells b)).rangeAt w.heap.size 0 (bcells b) := fun C hC =>
    World.rangeAt_setCells_same _ _ _ _ (fun j hj => by rw [bcells_len, hb] at hj; exact ⟨by rw [Nat.zero_add]; exact (key C hC).1 j hj, (key C hC).2 _⟩)
  have hbl : (Tryz.prog.info? 190).map (·.size) = some (bcells b).length := by rw [bcells_len, hb]; exact blockSize
  have HK := Lib.hid (And.intro hrg hth)
  have HB := Lib.hid hbl
  clear hrg hth key hbl
  go_enter Tryz.func141, Tryz.ntmps141
  go_wp2_with (first
    | (refine wpList_load_mid rfl 190 (.tmp 2) rfl w.heap.size 0 rfl (bcells b) _ (HK.out.1 _ rfl) Tryz.underlying190 rfl HB.out ?_)
    | (refine wpList_store_mid rfl 190 (.tmp 2) (.tmp 6) rfl w.heap.size 0 (bcells b).toArray rfl rfl (by simpa [bcells_len, hb] using HK.out.2 _ rfl) (by simpa using HB.out) (all_oneCell_toArray (bcells_one b)) ?_))
  refine bodyPost_ret (v := .agg (bcells b).toArray) (results_cell (p := 2) rfl rfl ?_) rfl ⟨rfl, ?_⟩
  · exact run_loadVar_mid (P := Tryz.prog) _ _ _ _ _ _ (World.rangeAt_setCells_same _ _ _ _ (by rw [bcells_len, hb]; refine HK.out.2 _ ?_; rfl)) Tryz.underlying190 rfl HB.out
  · exact Only.setCells (.inr (Nat.le_refl _)) _ _ (Only.setCells (.inr (Nat.le_refl _)) _ _ ((Only.refl _ _).alloc _))
end Go.Proofs.YtbghglkplbnnkaaGreatDoor.Sec
-- SecPush
namespace Go.Proofs.YtbghglkplbnnkaaGreatDoor.Sec
open Go.RowKit

theorem wcells_len (x : Nat × ByteArray) : (wcells x).length = x.2.size + 1 := by simp [wcells, bcells_len]
theorem wcells_one (x : Nat × ByteArray) : ∀ v ∈ wcells x, v.oneCell' = true := by
  intro v hv
  rcases List.mem_cons.1 hv with rfl | hv
  · rfl
  · exact bcells_one _ v hv

section
variable {w w' : World} {y : Lay} {D : Dsk}

theorem bmap_len {l : List ByteArray} (h : ∀ b ∈ l, b.size = 32) : ∀ x ∈ l.map bcells, x.length = 32 := by
  intro x hx
  obtain ⟨b, hb, rfl⟩ := List.mem_map.1 hx
  rw [bcells_len, h b hb]
theorem mem_set_size {l : List ByteArray} {m : Nat} {b : ByteArray} (h : ∀ b ∈ l, b.size = 32) (hb : b.size = 32) : ∀ x ∈ l.set m b, x.size = 32 := by
  intro x hx
  rcases List.mem_or_eq_of_mem_set hx with q | rfl
  · exact h x q
  · exact hb

theorem IsD.set_now (h : IsD w y D) (m : Nat) (hm : m < D.lasts.length) (b : ByteArray) (hb : b.size = 32) : IsD (w.setCells y.N (m * 32) (bcells b)) y { D with now := D.now.set m b } := by
  have hn := h.shp.nL (by omega)
  have o : ∀ k, k ≠ y.N → (w.setCells y.N (m * 32) (bcells b)).heap[k]? = w.heap[k]? := fun k hk => heap_setCells_ne _ _ _ _ _ hk
  have hW : y.wa ≠ none → (w.setCells y.N (m * 32) (bcells b)).heap[y.W]? = w.heap[y.W]? := fun q => o _ (h.shp.nW q).2.2
  have hK : 0 < D.keep.length → (w.setCells y.N (m * 32) (bcells b)).heap[y.K]? = w.heap[y.K]? := fun q => o _ (h.shp.nK q).2.2.1
  have hd := h.head.of_block (o _ (fun e => hn.2.1 e.symm))
  refine ⟨⟨?_, hd.thr⟩, ⟨rows_of_block (o _ hn.2.2) h.bod.rL, ?_, ?_, there_of_block (o _ hn.2.2) h.bod.tL, World.there_setCells h.bod.tN _ _ _, ?_⟩, ?_, fun k q => by rw [size_setCells']; exact h.small k q⟩
  · have := hd.rng
    simpa [headc] using this
  · have := rows_set h.bod.rN (bmap_len h.shp.blkN) h.bod.tN m hm (bcells b) (by rw [bcells_len, hb])
    simpa [List.map_set] using this
  · have := h.bod.oW
    refine ⟨this.1, ?_⟩
    rcases this.2 with q | ⟨g, cap, cur, hv, hg, hh, r⟩
    · exact .inl q
    · have hwa : y.wa = some ⟨g, 0, none⟩ := by simpa using congrArg (fun v => match v with | .slice a _ _ => a | _ => none) hv
      have hne : y.wa ≠ none := by rw [hwa]; simp
      have hg' : g = y.W := by
        rcases h.shp.waE with q | q
        · exact absurd q hne
        · rw [hwa] at q; simpa using q
      subst hg'
      exact .inr ⟨_, cap, cur, hv, hg, by rw [hW hne]; exact hh, r⟩
  · intro j z hz
    exact (World.cell?_of_block (w := w) (a := ⟨y.K, j, none⟩) (hK (Nat.lt_of_le_of_lt (Nat.zero_le _) (List.getElem?_eq_some_iff.1 hz).1))).trans (h.bod.rK j z hz)
  · have s := h.shp
    exact ⟨by simpa using s.len, s.most, s.blkL, mem_set_size s.blkN hb, s.blkW, s.deedsB, s.leftB, s.waitsB, s.capL, by simpa using s.capN, s.capK, s.keepB, s.laE, s.naE, s.waE, s.kaE, s.nL, s.nW, s.nK⟩

theorem IsD.set_lasts (h : IsD w y D) (m : Nat) (hm : m < D.lasts.length) (b : ByteArray) (hb : b.size = 32) : IsD (w.setCells y.L (m * 32) (bcells b)) y { D with lasts := D.lasts.set m b } := by
  have hn := h.shp.nL (by omega)
  have o : ∀ k, k ≠ y.L → (w.setCells y.L (m * 32) (bcells b)).heap[k]? = w.heap[k]? := fun k hk => heap_setCells_ne _ _ _ _ _ hk
  have hW : y.wa ≠ none → (w.setCells y.L (m * 32) (bcells b)).heap[y.W]? = w.heap[y.W]? := fun q => o _ (h.shp.nW q).2.1
  have hK : 0 < D.keep.length → (w.setCells y.L (m * 32) (bcells b)).heap[y.K]? = w.heap[y.K]? := fun q => o _ (h.shp.nK q).2.1
  have hd := h.head.of_block (o _ (fun e => hn.1 e.symm))
  have hNL : y.N ≠ y.L := fun e => hn.2.2 e.symm
  refine ⟨⟨?_, hd.thr⟩, ⟨?_, rows_of_block (o _ hNL) h.bod.rN, ?_, by simpa using World.there_setCells h.bod.tL _ _ _, by simpa using there_of_block (o _ hNL) h.bod.tN, ?_⟩, ?_, fun k q => by rw [size_setCells']; exact h.small k q⟩
  · have := hd.rng
    simpa [headc] using this
  · have := rows_set h.bod.rL (bmap_len h.shp.blkL) h.bod.tL m hm (bcells b) (by rw [bcells_len, hb])
    simpa [List.map_set] using this
  · have := h.bod.oW
    refine ⟨this.1, ?_⟩
    rcases this.2 with q | ⟨g, cap, cur, hv, hg, hh, r⟩
    · exact .inl q
    · have hwa : y.wa = some ⟨g, 0, none⟩ := by simpa using congrArg (fun v => match v with | .slice a _ _ => a | _ => none) hv
      have hne : y.wa ≠ none := by rw [hwa]; simp
      have hg' : g = y.W := by
        rcases h.shp.waE with q | q
        · exact absurd q hne
        · rw [hwa] at q; simpa using q
      subst hg'
      exact .inr ⟨_, cap, cur, hv, hg, by rw [hW hne]; exact hh, r⟩
  · intro j z hz
    exact (World.cell?_of_block (w := w) (a := ⟨y.K, j, none⟩) (hK (Nat.lt_of_le_of_lt (Nat.zero_le _) (List.getElem?_eq_some_iff.1 hz).1))).trans (h.bod.rK j z hz)
  · have s := h.shp
    exact ⟨by simpa using s.len, by simpa using s.most, mem_set_size s.blkL hb, s.blkN, by simpa using s.blkW, s.deedsB, s.leftB, s.waitsB, by simpa using s.capL, s.capN, s.capK, s.keepB, by simpa using s.laE, by simpa using s.naE, s.waE, s.kaE, by simpa using s.nL, s.nW, s.nK⟩

def Lay.newW (y : Lay) (g cap : Nat) : Lay := { y with W := g, cW := cap, wa := some ⟨g, 0, none⟩ }

theorem IsD.push_waits (h : IsD w y D) (x : Nat × ByteArray) (hx : x.2.size = 32 ∧ x.1 < D.lasts.length) (hB : D.waits.length + 1 < 2 ^ 40) (g cap : Nat)
    (hown : w'.ownsRow 0 220 33 (.slice (some ⟨g, 0, none⟩) (D.waits.length + 1) cap) (D.waits.length + 1) (D.waits.flatMap wcells ++ wcells x))
    (hgr : w.grownBy w' (Value.ownBlock (.slice y.wa D.waits.length y.cW))) (hat : Value.ownBlock (.slice y.wa D.waits.length y.cW) = some g ∨ w.heap.size ≤ g) (hlt : g < w'.heap.size) :
    IsD (w'.setCell ⟨y.p, 4, none⟩ (.slice (some ⟨g, 0, none⟩) (D.waits.length + 1) cap)) (y.newW g cap) { D with waits := D.waits ++ [x] } ∧
      (∀ b, (y.newW g cap).foot b → y.foot b ∨ w.heap.size ≤ b) ∧ Only y.foot w (w'.setCell ⟨y.p, 4, none⟩ (.slice (some ⟨g, 0, none⟩) (D.waits.length + 1) cap)) := by
  have s := h.shp
  have hob : ∀ k, Value.ownBlock (.slice y.wa D.waits.length y.cW) = some k → k = y.W ∧ y.wa ≠ none := fun k hk => by
    rcases s.waE with q | q
    · rw [q] at hk; simp [Value.ownBlock] at hk
    · rw [q] at hk ⊢; simp [Value.ownBlock] at hk; exact ⟨hk.symm, by simp⟩
  have hblk : ∀ k, k < w.heap.size → (y.wa ≠ none → k ≠ y.W) → w'.heap[k]? = w.heap[k]? := fun k hk hne => hgr.block k hk (fun e => by
    obtain ⟨e1, e2⟩ := hob k e.symm
    exact hne e2 e1)
  have hp := h.small y.p (.inl rfl)
  have hLs := h.small y.L (.inr (.inl rfl))
  have hNs := h.small y.N (.inr (.inr (.inl rfl)))
  have hKs := h.small y.K (.inr (.inr (.inr (.inr rfl))))
  have bp := hblk y.p hp (fun q e => (s.nW q).1 e.symm)
  have bL := hblk y.L hLs (fun q e => (s.nW q).2.1 e.symm)
  have bN := hblk y.N hNs (fun q e => (s.nW q).2.2 e.symm)
  have hd := h.head.of_block bp
  have gne : g ≠ y.p ∧ g ≠ y.L ∧ g ≠ y.N ∧ (0 < D.keep.length → y.K ≠ g) := by
    rcases hat with q | q
    · obtain ⟨rfl, e2⟩ := hob g q
      exact ⟨(s.nW e2).1, (s.nW e2).2.1, (s.nW e2).2.2, fun q => (s.nK q).2.2.2 e2⟩
    · exact ⟨by omega, by omega, by omega, fun _ => by omega⟩
  have o : ∀ k, k ≠ y.p → (w'.setCell ⟨y.p, 4, none⟩ (.slice (some ⟨g, 0, none⟩) (D.waits.length + 1) cap)).heap[k]? = w'.heap[k]? := fun k hk => heap_setCell_ne _ _ _ _ hk
  refine ⟨⟨⟨?_, there_set hd.thr _ _⟩, ⟨?_, ?_, ?_, ?_, ?_, ?_⟩, ?_, ?_⟩, ?_, ?_⟩
  · have := rangeAt_set (k := 4) hd.rng (.slice (some ⟨g, 0, none⟩) (D.waits.length + 1) cap)
    simpa [headc, Lay.newW] using this
  · intro j u hu
    exact rangeAt_of_block ((o _ (s.nL (by have := (List.getElem?_eq_some_iff.1 hu).1; simp at this; omega)).1).trans bL) (h.bod.rL j u hu)
  · intro j u hu
    exact rangeAt_of_block ((o _ (s.nL (by have := (List.getElem?_eq_some_iff.1 hu).1; have := s.len; simp at *; omega)).2.1).trans bN) (h.bod.rN j u hu)
  · have e : (D.waits ++ [x]).flatMap wcells = D.waits.flatMap wcells ++ wcells x := by simp
    refine ⟨by rw [e]; simpa using hown.1, ?_⟩
    rcases hown.2 with ⟨q, _⟩ | ⟨g', cap', cur, hv, hg, hh, r1, r2, r3, r4⟩
    · cases q
    · obtain ⟨rfl, rfl⟩ : g = g' ∧ cap = cap' := by simpa using hv
      refine .inr ⟨g, cap, cur, ?_, hg, by rw [o _ gne.1]; exact hh, by simpa using r1, r2, r3, ?_⟩
      · simp [Lay.newW]
      · rw [e]; simpa using r4
  · intro j hj
    exact there_of_block ((o _ (s.nL (by omega)).1).trans bL) h.bod.tL j hj
  · intro j hj
    exact there_of_block ((o _ (s.nL (by omega)).2.1).trans bN) h.bod.tN j hj
  · intro j z hz
    have h0 : 0 < D.keep.length := Nat.lt_of_le_of_lt (Nat.zero_le _) (List.getElem?_eq_some_iff.1 hz).1
    have hk := s.nK h0
    exact (World.cell?_of_block (w := w) (a := ⟨y.K, j, none⟩) ((o _ hk.1).trans (hblk _ hKs hk.2.2.2))).trans (h.bod.rK j z hz)
  · refine ⟨s.len, s.most, s.blkL, s.blkN, ?_, s.deedsB, s.leftB, by simpa using hB, s.capL, s.capN, s.capK, s.keepB, s.laE, s.naE, .inr rfl, s.kaE, s.nL, fun _ => ⟨gne.1, gne.2.1, gne.2.2.1⟩, fun q => ⟨(s.nK q).1, (s.nK q).2.1, (s.nK q).2.2.1, fun _ => gne.2.2.2 q⟩⟩
    intro u hu
    rcases List.mem_append.1 hu with q | q
    · exact s.blkW u q
    · obtain rfl : u = x := by simpa using q
      exact hx
  · intro k q
    rw [size_setCell']
    have hsz := hgr.size
    rcases q with q | q | q | q | q
    · have := h.small k (.inl q); omega
    · have := h.small k (.inr (.inl q)); omega
    · have := h.small k (.inr (.inr (.inl q))); omega
    · obtain rfl : k = g := q
      exact hlt
    · have := h.small k (.inr (.inr (.inr (.inr q)))); omega
  · intro k q
    rcases q with q | q | q | q | q
    · exact .inl (.inl q)
    · exact .inl (.inr (.inl q))
    · exact .inl (.inr (.inr (.inl q)))
    · obtain rfl : k = g := q
      rcases hat with q | q
      · exact .inl (.inr (.inr (.inr (.inl (hob _ q).1))))
      · exact .inr q
    · exact .inl (.inr (.inr (.inr (.inr q))))
  · exact ((Only.refl _ _).grown hgr (fun k hk => .inl (.inr (.inr (.inr (.inl (hob _ hk).1)))))).setCell (.inl (.inl rfl)) _
end

def Goes (y : Lay) (w : World) (D' : Dsk) (w' : World) : Prop :=
  ∃ y' : Lay, y'.p = y.p ∧ IsD w' y' D' ∧ (∀ b, y'.foot b → y.foot b ∨ w.heap.size ≤ b) ∧ Only y.foot w w'
theorem Goes.of {y : Lay} {w w' : World} {D : Dsk} (h : IsD w' y D) (o : Only y.foot w w') : Goes y w D w' := ⟨y, rfl, h, fun _ q => .inl q, o⟩
end Go.Proofs.YtbghglkplbnnkaaGreatDoor.Sec
-- SecRow
namespace Go.Proofs.YtbghglkplbnnkaaGreatDoor.Sec
open Go.RowKit

theorem writeInfo : (Tryz.prog.info? 220).map (fun i => (i.zero, i.size, i.bytes)) = some (some (.agg (#[.int .i64 0] ++ Array.replicate 32 (.int .u8 0))), 33, 40) := by kernel_rfl
theorem writeSize : (Tryz.prog.info? 220).map (·.size) = some 33 := by kernel_rfl
theorem list32 {l : List Value} (h : l.length = 32) : ∃ a0 a1 a2 a3 a4 a5 a6 a7 a8 a9 b0 b1 b2 b3 b4 b5 b6 b7 b8 b9 c0 c1 c2 c3 c4 c5 c6 c7 c8 c9 d0 d1,
    l = [a0, a1, a2, a3, a4, a5, a6, a7, a8, a9, b0, b1, b2, b3, b4, b5, b6, b7, b8, b9, c0, c1, c2, c3, c4, c5, c6, c7, c8, c9, d0, d1] := by
  match l, h with
  | [a0, a1, a2, a3, a4, a5, a6, a7, a8, a9, b0, b1, b2, b3, b4, b5, b6, b7, b8, b9, c0, c1, c2, c3, c4, c5, c6, c7, c8, c9, d0, d1], _ => exact ⟨_, _, _, _, _, _, _, _, _, _, _, _, _, _, _, _, _, _, _, _, _, _, _, _, _, _, _, _, _, _, _, _, rfl⟩
def warr (v : Value) (l : List Value) : Array Value := (v :: l).toArray
theorem warr_size (v : Value) (l : List Value) : (warr v l).size = l.length + 1 := by simp [warr]
theorem warr_list (v : Value) (l : List Value) : (warr v l).toList = v :: l := by simp [warr]
theorem build_write (i : Int) (l : List Value) (hl : l.length = 32) (w : World) :
    (Instr.build 220 #[(0, .int .i64 i), (1, .agg l.toArray)]).run Tryz.prog w = .ok (.agg (warr (.int .i64 i) l)) w := by
  obtain ⟨a0, a1, a2, a3, a4, a5, a6, a7, a8, a9, b0, b1, b2, b3, b4, b5, b6, b7, b8, b9, c0, c1, c2, c3, c4, c5, c6, c7, c8, c9, d0, d1, rfl⟩ := list32 hl
  kernel_rfl

theorem buildSlice_write (i : Int) (l : List Value) (hl : l.length = 32) (w : World) :
    (Instr.buildSlice 126 1 #[(0, .agg (warr (.int .i64 i) l))]).run Tryz.prog w = .ok (.slice (some ⟨w.heap.size, 0, none⟩) 1 1) (w.alloc (.cells (warr (.int .i64 i) l) 220)) := by
  obtain ⟨a0, a1, a2, a3, a4, a5, a6, a7, a8, a9, b0, b1, b2, b3, b4, b5, b6, b7, b8, b9, c0, c1, c2, c3, c4, c5, c6, c7, c8, c9, d0, d1, rfl⟩ := list32 hl
  kernel_rfl

theorem wpList_build_write {ops : Array Oper} {rest : List Oper} {op : Oper} {a : Act} {w : World} {Q : Exit → Act → World → Prop} (hgd : op.guard = none) (x y : Operand) (ho : op.op = .build 220 #[(0, x), (1, y)])
    (i : Int) (l : List Value) (hx : a.eval x = .int .i64 i) (hy : a.eval y = .agg l.toArray) (hl : l.length = 32)
    (h : wpList Tryz.prog ops Q rest (a.put op.dst (.agg (warr (.int .i64 i) l))) w) : wpList Tryz.prog ops Q (op :: rest) a w :=
  wpList_plain hgd fun _ hK => by
    have hr := build_write i l hl w
    unfold Oper.wp execOp
    simp [ho, hx, hy, Sem.run_bind, Sem.run_pure, Result.andThen_ok, hr]
    exact hK _ _ h

theorem wpList_store_new {P : Program} {ops : Array Oper} {rest : List Oper} {op : Oper} {a : Act} {w : World} {Q : Exit → Act → World → Prop} (hgd : op.guard = none) (ty : TypeId) (x y : Operand) (ho : op.op = .store ty x y)
    (C c' : Array Value) (hx : a.eval x = .pointer (some ⟨w.heap.size, 0, none⟩)) (hy : a.eval y = .agg c') (hi : (P.info? ty).map (·.size) = some c'.size) (hs : C.size = c'.size) (h1 : c'.all (·.oneCell') = true)
    (h : wpList P ops Q rest (a.put op.dst undef) (w.alloc (.cells c' ty))) : wpList P ops Q (op :: rest) a (w.alloc (.cells C ty)) :=
  wpList_plain hgd fun _ hK => by
    have hr := run_storeVar_new (P := P) w ty C c' hi hs h1
    unfold Oper.wp execOp
    simp only [ho, hx, hy, Instr.storeAt, Instr.sureAddr, Sem.run_bind, Sem.run_pure, Result.andThen_ok, hr]
    exact hK _ _ h

def isRow (u : World) (v : Value) (n : Nat) : Prop := ∃ b o cs, v = .pointer (some ⟨b, o, none⟩) ∧ u.rangeAt b o cs ∧ cs.length = n
def rowAt (u : World) (v : Value) (n : Nat) : List Value := match v with
  | .pointer (some a) => (List.range n).map fun j => (u.cell? ⟨a.block, a.off + j, none⟩).getD undef
  | _ => []
theorem rowAt_eq {u : World} {b o n : Nat} {cs : List Value} (h : u.rangeAt b o cs) (hl : cs.length = n) : rowAt u (.pointer (some ⟨b, o, none⟩)) n = cs := by
  subst hl
  refine List.ext_getElem (by simp [rowAt]) fun j h1 h2 => ?_
  have := h j cs[j] (List.getElem?_eq_getElem h2)
  simp [rowAt, this]
theorem load_write {dst : Option Tmp} {tt : TypeId} {pos : String} {after : Array Edge} {guard : Option (Nat × Bool)} {x : Operand} {f : Operand → Value} {u : World} (h : isRow u (f x) 33) :
    (execOp f ⟨dst, .load 220 x, tt, pos, after, guard⟩).run Tryz.prog u = .ok (.value (.agg (rowAt u (f x) 33).toArray)) u := by
  obtain ⟨b, o, cs, hx, hr, hl⟩ := h
  unfold execOp
  simp only [hx, rowAt_eq hr hl, Instr.loadAt, Instr.sureAddr, Sem.run_bind, Sem.run_pure, Result.andThen_ok, run_loadVar_mid (P := Tryz.prog) _ _ _ _ _ _ hr Tryz.underlying220 rfl (by rw [hl]; exact writeSize)]

def isAgg (v : Value) (n : Nat) : Prop := ∃ A, v = .agg A ∧ A.size = n
theorem buildSlice_cons (v : Value) (l : List Value) (hl : l.length = 32) (w : World) :
    (Instr.buildSlice 126 1 #[(0, .agg (v :: l).toArray)]).run Tryz.prog w = .ok (.slice (some ⟨w.heap.size, 0, none⟩) 1 1) (w.alloc (.cells (v :: l).toArray 220)) := by
  obtain ⟨a0, a1, a2, a3, a4, a5, a6, a7, a8, a9, b0, b1, b2, b3, b4, b5, b6, b7, b8, b9, c0, c1, c2, c3, c4, c5, c6, c7, c8, c9, d0, d1, rfl⟩ := list32 hl
  kernel_rfl
theorem buildSlice_any (A : Array Value) (hA : A.size = 33) (w : World) :
    (Instr.buildSlice 126 1 #[(0, .agg A)]).run Tryz.prog w = .ok (.slice (some ⟨w.heap.size, 0, none⟩) 1 1) (w.alloc (.cells A 220)) := by
  obtain ⟨l⟩ := A
  match l, hA with
  | v :: r, h => exact buildSlice_cons v r (by simpa using h) w
theorem buildSlice_op {dst : Option Tmp} {tt : TypeId} {pos : String} {after : Array Edge} {guard : Option (Nat × Bool)} {x : Operand} {f : Operand → Value} {u : World} (h : isAgg (f x) 33) :
    (execOp f ⟨dst, .buildSlice 126 1 #[(0, x)], tt, pos, after, guard⟩).run Tryz.prog u = .ok (.value (.slice (some ⟨u.heap.size, 0, none⟩) 1 1)) (u.alloc (.cells (f x).cells 220)) := by
  obtain ⟨A, hx, hA⟩ := h
  have := buildSlice_any A hA u
  unfold execOp
  simp [hx, Sem.run_bind, Sem.run_pure, Result.andThen_ok, this, Value.cells]

theorem flat_at {l : List (Nat × ByteArray)} (hl : ∀ x ∈ l, x.2.size = 32) : ∀ {k : Nat} {x : Nat × ByteArray}, l[k]? = some x → ∀ j v, (wcells x)[j]? = some v → (l.flatMap wcells)[k * 33 + j]? = some v := by
  induction l with
  | nil => intro k x hx; simp at hx
  | cons a r ih =>
    intro k x hx j v hv
    have ha : (wcells a).length = 33 := by rw [wcells_len, hl a (by simp)]
    cases k with
    | zero =>
      obtain rfl : a = x := by simpa using hx
      rw [List.flatMap_cons, Nat.zero_mul, Nat.zero_add, List.getElem?_append_left (List.getElem?_eq_some_iff.1 hv).1]
      exact hv
    | succ k =>
      rw [List.flatMap_cons, List.getElem?_append_right (by rw [ha]; omega), ha, show (k + 1) * 33 + j - 33 = k * 33 + j by omega]
      exact ih (fun x hx => hl x (by simp [hx])) (by simpa using hx) j v hv
theorem IsD.wait_at {w : World} {y : Lay} {D : Dsk} (h : IsD w y D) {k : Nat} {x : Nat × ByteArray} (hx : D.waits[k]? = some x) :
    y.wa = some ⟨y.W, 0, none⟩ ∧ w.rangeAt y.W (k * 33) (wcells x) := by
  have hk : k < D.waits.length := (List.getElem?_eq_some_iff.1 hx).1
  have o := h.bod.oW
  have hwa : y.wa = some ⟨y.W, 0, none⟩ := by
    rcases h.shp.waE with q | q
    · obtain ⟨g, cap, hv, _, _⟩ := o.form (by omega)
      rw [q] at hv
      simp at hv
    · exact q
  refine ⟨hwa, fun j v hv => ?_⟩
  rw [hwa] at o
  have hxs : x.2.size = 32 := (h.shp.blkW x (List.mem_of_getElem? hx)).1
  have hj : j < 33 := by have := (List.getElem?_eq_some_iff.1 hv).1; rw [wcells_len, hxs] at this; exact this
  rw [o.cellAt (k * 33 + j) (by have := Nat.mul_le_mul_right 33 (show k + 1 ≤ D.waits.length from hk); omega)]
  exact flat_at (fun x hx => (h.shp.blkW x hx).1) hx j v hv
end Go.Proofs.YtbghglkplbnnkaaGreatDoor.Sec
-- SecCrash
namespace Go.Proofs.YtbghglkplbnnkaaGreatDoor.Sec
open Go.RowKit

def odd (z : Int) : Bool := z % 2 == 1
def Dsk.crashL (D : Dsk) (kl : List Int) : Nat → List ByteArray
  | 0 => D.lasts
  | n + 1 => match D.waits[n]? with
    | some x => if odd (kl.getD n 0) then (D.crashL kl n).set x.1 x.2 else D.crashL kl n
    | none => D.crashL kl n
def lostN (kl : List Int) : Nat → Nat
  | 0 => 0
  | n + 1 => if odd (kl.getD n 0) then lostN kl n else lostN kl n + 1
def Dsk.crash (D : Dsk) (kl : List Int) : Dsk :=
  { D with on := false, lasts := D.crashL kl D.waits.length, now := D.crashL kl D.waits.length, waits := [], lit := false, left := 0, keep := [] }
def Dsk.disarm (D : Dsk) : Dsk := { D with lit := false, left := 0, keep := [] }
theorem lostN_le (kl : List Int) : ∀ n, lostN kl n ≤ n
  | 0 => Nat.le_refl _
  | n + 1 => by have := lostN_le kl n; unfold lostN; split <;> omega
theorem crashL_len (D : Dsk) (kl : List Int) : ∀ n, (D.crashL kl n).length = D.lasts.length
  | 0 => rfl
  | n + 1 => by
    have := crashL_len D kl n
    unfold Dsk.crashL
    split
    · split <;> simp [this]
    · exact this
structure KeepIs (w : World) (y : Lay) (ka : Option Addr) (kl : List Int) : Prop where
  at_ : ∀ j z, kl[j]? = some z → ∃ a : Addr, ka = some a ∧ w.cell? (a.add j) = some (.int .i64 z)
  off : ∀ a : Addr, 0 < kl.length → ka = some a → a.block < w.heap.size ∧ a.block ≠ y.p ∧ a.block ≠ y.L ∧ a.block ≠ y.N

theorem i64_and1 (n : Int) : bits .and .i64 n 1 = n % 2 := by
  have h1 : (BitVec.ofInt 64 1).toNat = 2 ^ 1 - 1 := by decide
  have key : (BitVec.ofInt 64 n &&& BitVec.ofInt 64 1).toNat = (n % ((2 ^ 64 : Nat) : Int)).toNat % 2 ^ 1 := by
    rw [BitVec.toNat_and, BitVec.toNat_ofInt, h1, Nat.and_two_pow_sub_one_eq_mod]
  show IntKind.i64.wrap ((BitVec.ofInt 64 n &&& BitVec.ofInt 64 1).toNat : Nat) = n % 2
  rw [key, IntKind.wrap_i64]
  omega
theorem crashL_odd {D : Dsk} {kl : List Int} {k : Nat} {x : Nat × ByteArray} (hx : D.waits[k]? = some x) (ho : odd (kl.getD k 0) = true) : D.crashL kl (k + 1) = (D.crashL kl k).set x.1 x.2 := by
  rw [Dsk.crashL, hx]; simp only [ho, if_true]
theorem crashL_even {D : Dsk} {kl : List Int} {k : Nat} {x : Nat × ByteArray} (hx : D.waits[k]? = some x) (ho : odd (kl.getD k 0) = false) : D.crashL kl (k + 1) = D.crashL kl k := by
  rw [Dsk.crashL, hx]; simp only [ho, Bool.false_eq_true, if_false]
theorem lostN_odd {kl : List Int} {k : Nat} (ho : odd (kl.getD k 0) = true) : lostN kl (k + 1) = lostN kl k := by rw [lostN, if_pos ho]
theorem lostN_even {kl : List Int} {k : Nat} (ho : odd (kl.getD k 0) = false) : lostN kl (k + 1) = lostN kl k + 1 := by rw [lostN, if_neg (by rw [ho]; simp)]

section
variable {w : World} {y : Lay} {D : Dsk}
theorem flatten_at {k : Nat} : ∀ {l : List (List Value)} (_ : ∀ x ∈ l, x.length = k) {i : Nat} {x : List Value}, l[i]? = some x → ∀ j v, x[j]? = some v → l.flatten[i * k + j]? = some v
  | [], _, i, x, hx, _, _, _ => by simp at hx
  | a :: r, hl, 0, x, hx, j, v, hv => by
    obtain rfl : a = x := by simpa using hx
    rw [List.flatten_cons, Nat.zero_mul, Nat.zero_add, List.getElem?_append_left (List.getElem?_eq_some_iff.1 hv).1]
    exact hv
  | a :: r, hl, i + 1, x, hx, j, v, hv => by
    have ha : a.length = k := hl a (by simp)
    have := flatten_at (l := r) (fun x hx => hl x (by simp [hx])) (by simpa using hx) j v hv
    rw [List.flatten_cons, List.getElem?_append_right (by rw [ha, Nat.add_mul]; omega), ha, show (i + 1) * k + j - k = i * k + j by rw [Nat.add_mul]; omega]
    exact this
theorem flatten_len {k : Nat} : ∀ {l : List (List Value)} (_ : ∀ x ∈ l, x.length = k), l.flatten.length = l.length * k
  | [], _ => by simp
  | a :: r, hl => by
    have := flatten_len (l := r) (fun x hx => hl x (by simp [hx]))
    rw [List.flatten_cons, List.length_append, this, hl a (by simp), List.length_cons, Nat.add_mul]; omega
theorem rows_flat {u : World} {b k : Nat} {l : List (List Value)} (hl : ∀ x ∈ l, x.length = k) (h : u.rangeAt b 0 l.flatten) : Rows u b k l := fun i x hx j v hv => by
  have := h (i * k + j) v (flatten_at hl hx j v hv)
  rwa [Nat.zero_add] at this
theorem flat_rows {u : World} {b k : Nat} (hk : 0 < k) {l : List (List Value)} (hl : ∀ x ∈ l, x.length = k) (h : Rows u b k l) : u.rangeAt b 0 l.flatten := fun n v hv => by
  have hn : n < l.length * k := by rw [← flatten_len hl]; exact (List.getElem?_eq_some_iff.1 hv).1
  have hi : n / k < l.length := Nat.div_lt_of_lt_mul (by rw [Nat.mul_comm]; exact hn)
  have hx : l[n / k]? = some l[n / k] := List.getElem?_eq_getElem hi
  have hxl : (l[n / k]).length = k := hl _ (List.getElem_mem hi)
  have hj : n % k < (l[n / k]).length := by rw [hxl]; exact Nat.mod_lt _ hk
  have e := flatten_at hl hx (n % k) _ (List.getElem?_eq_getElem hj)
  have en : n / k * k + n % k = n := by rw [Nat.mul_comm]; exact Nat.div_add_mod n k
  rw [en, hv] at e
  have := h (n / k) _ hx (n % k) _ (List.getElem?_eq_getElem hj)
  rw [en] at this
  rw [Nat.zero_add, this]
  exact e.symm
theorem flat_one {l : List ByteArray} : ∀ v ∈ (l.map bcells).flatten, v.oneCell' = true := by
  intro v hv
  obtain ⟨x, hx, hv⟩ := List.mem_flatten.1 hv
  obtain ⟨b, _, rfl⟩ := List.mem_map.1 hx
  exact bcells_one b v hv
theorem copyRun (h : IsD w y D) : (Builtin.copy_ #[125, 125] 3 #[.slice y.na D.now.length y.cN, .slice y.la D.lasts.length y.cL]).run Tryz.prog w = .ok (.int .i64 (D.lasts.length : Int)) (w.setCells y.N 0 (D.lasts.map bcells).flatten) := by
  have hz : (Go.sizeOf 190).run Tryz.prog w = .ok 32 w := by kernel_rfl
  have hmin : Nat.min D.lasts.length D.now.length = D.lasts.length := by rw [h.shp.len]; exact Nat.min_self _
  have hfl := flatten_len (bmap_len h.shp.blkL)
  rw [List.length_map] at hfl
  rcases Nat.eq_zero_or_pos D.lasts.length with h0 | h0
  · have hnil : D.lasts = [] := List.eq_nil_of_length_eq_zero h0
    have hl : ∀ (x : Addr), (loadCells x 0).run Tryz.prog w = .ok #[] w := fun x => by simpa using run_loadCells_list (P := Tryz.prog) w x [] (by simp)
    rw [hnil] at hmin ⊢
    cases y.na <;> cases y.la <;> simp [Builtin.copy_, run_underlying Tryz.underlying125, Builtin.lenOf, Builtin.firstCells, hz, storeCells, hl, World.setCells, goInt, Nat.min_def]
  · have hla := h.shp.laE h0
    have hna := h.shp.naE h0
    have hr := flat_rows (by omega) (bmap_len h.shp.blkL) h.bod.rL
    have hld := run_loadCells_list (P := Tryz.prog) w ⟨y.L, 0, none⟩ _ (fun j v hv => by rw [Addr.add_mid]; exact hr j v hv)
    rw [hfl] at hld
    have hst := run_storeCells_cells (P := Tryz.prog) y.N 0 (D.lasts.map bcells).flatten 0 w (fun j hj => by simpa using (h.bod.tN j (by rw [hfl] at hj; exact hj)).1) (fun j hj => by simpa using (h.bod.tN j (by rw [hfl] at hj; exact hj)).2) flat_one
    simp only [Nat.add_zero] at hst
    rw [hla, hna]
    simp only [Builtin.copy_, List.getElem?_toArray, Sem.run_bind, Sem.run_pure, Result.andThen_ok]
    simp [run_underlying Tryz.underlying125, Builtin.lenOf, Builtin.firstCells, hz, hmin, hld, hst, goInt]
theorem IsD.copied (h : IsD w y D) : IsD (w.setCells y.N 0 (D.lasts.map bcells).flatten) y { D with now := D.lasts } := by
  rcases Nat.eq_zero_or_pos D.lasts.length with h0 | h0
  · have hnil : D.lasts = [] := List.eq_nil_of_length_eq_zero h0
    have hnn : D.now = [] := List.eq_nil_of_length_eq_zero (by rw [h.shp.len]; exact h0)
    have e : ({ D with now := D.lasts } : Dsk) = D := by cases D; simp_all
    rw [e, hnil]
    exact h
  · have hn := h.shp.nL h0
    have hfl := flatten_len (bmap_len h.shp.blkL)
    rw [List.length_map] at hfl
    have o : ∀ k, k ≠ y.N → (w.setCells y.N 0 (D.lasts.map bcells).flatten).heap[k]? = w.heap[k]? := fun k hk => heap_setCells_ne _ _ _ _ _ hk
    have hd := h.head.of_block (o _ (fun e => hn.2.1 e.symm))
    have hb := (h.bod.of_blocks (w' := w) h.shp (fun _ => ⟨rfl, rfl⟩) (fun _ => rfl) (fun _ => rfl))
    have ho := (Bod.mk (D := { D with now := [], lasts := [] }) (w := w) (y := y) (by intro j x hx; simp at hx) (by intro j x hx; simp at hx) hb.oW (by intro j hj; simp at hj) (by intro j hj; simp at hj) hb.rK)
    have s := h.shp
    refine ⟨⟨?_, hd.thr⟩, ⟨rows_of_block (o _ hn.2.2) h.bod.rL, ?_, ?_, there_of_block (o _ hn.2.2) h.bod.tL, World.there_setCells h.bod.tN _ _ _, ?_⟩, ?_, fun k q => by rw [size_setCells']; exact h.small k q⟩
    · have := hd.rng
      simpa [headc, s.len] using this
    · exact rows_flat (bmap_len s.blkL) (World.rangeAt_setCells_same _ _ _ _ (fun j hj => h.bod.tN j (by rw [hfl] at hj; exact hj)))
    · have := h.bod.oW
      refine ⟨this.1, ?_⟩
      rcases this.2 with q | ⟨g, cap, cur, hv, hg, hh, r⟩
      · exact .inl q
      · have hwa : y.wa = some ⟨g, 0, none⟩ := by simpa using congrArg (fun v => match v with | .slice a _ _ => a | _ => none) hv
        have hne : y.wa ≠ none := by rw [hwa]; simp
        have hg' : g = y.W := by
          rcases s.waE with q | q
          · exact absurd q hne
          · rw [hwa] at q; simpa using q
        subst hg'
        exact .inr ⟨_, cap, cur, hv, hg, by rw [o _ (s.nW hne).2.2]; exact hh, r⟩
    · intro j z hz
      have h0 : 0 < D.keep.length := Nat.lt_of_le_of_lt (Nat.zero_le _) (List.getElem?_eq_some_iff.1 hz).1
      exact (World.cell?_of_block (w := w) (a := ⟨y.K, j, none⟩) (o _ (s.nK h0).2.2.1)).trans (h.bod.rK j z hz)
    · exact ⟨rfl, s.most, s.blkL, s.blkL, s.blkW, s.deedsB, s.leftB, s.waitsB, s.capL, by have := s.capN; rw [s.len] at this; exact this, s.capK, s.keepB, s.laE, s.naE, s.waE, s.kaE, s.nL, s.nW, s.nK⟩
end

theorem step_builtin_run {P : Program} {ops : Array Oper} {o : Oper} {a : Act} {w w' : World} {K : Act → World → Prop} {Q : Exit → Act → World → Prop} {E : Prop} (hgd : o.guard = none) (d s : Operand) (dT sT : TypeId)
    (ho : o.op = .call { callee := .builtin .copy, args := #[d, s], argTypes := #[dT, sT] }) (vd vs v : Value) (hd : a.eval d = vd) (hs : a.eval s = vs)
    (hr : (Builtin.copy_ #[dT, sT] o.type #[vd, vs]).run P w = .ok v w') (h : K (a.put o.dst v) w') :
    if Region.wanted o (yielded ops a.tmps) = true then Oper.wp P o a w K Q else E := by
  have hw : Region.wanted o (yielded ops a.tmps) = true := by simp [Region.wanted, hgd]
  rw [if_pos hw]
  unfold Oper.wp execOp
  simp only [ho, resolve, invoke, builtin, Sem.run_bind, Sem.run_pure, Result.andThen_ok, List.map_toArray, List.map_cons, List.map_nil, hd, hs, hr]
  exact h

def Lay.three (y : Lay) (b : Nat) : Prop := b = y.p ∨ b = y.L ∨ b = y.N

attribute [local go_sem ↓] load_write
set_option maxRecDepth 100000 in
set_option maxHeartbeats 1000000 in
theorem Crash_on (y : Lay) (D : Dsk) (w : World) (ka : Option Addr) (kl : List Int) (kc : Nat) (h : IsD w y D) (hk : KeepIs w y ka kl) (hkl : kl.length < 2 ^ 62) (hon : D.on = true) :
    Calls Tryz.prog 161 #[.pointer (some ⟨y.p, 0, none⟩), .slice ka kl.length kc] w fun e w' => e = .returned (.int .i64 (lostN kl D.waits.length : Int)) ∧ Goes y w (D.crash kl) w' := by
  have hwa : 0 < D.waits.length → y.wa = some ⟨y.W, 0, none⟩ := fun q => (h.wait_at (List.getElem?_eq_getElem q)).1
  have hwB := h.shp.waitsB
  have c1 := h.head.c1
  rw [hon] at c1
  have c4 := h.head.c4
  have f6 := h.head.fz 6 (by omega)
  have f7 := h.head.fz 7 (by omega)
  have f8 := h.head.fz 8 (by omega)
  have c6 := h.head.c6
  have c7 := h.head.c7
  have c8 := h.head.c8
  generalize hwv : y.wa = wa at *
  have H := Lib.hid (And.intro h (And.intro hk (And.intro hon (And.intro hwv hwa))))
  clear h hk hon hwa hwv
  go_enter Tryz.func161, Tryz.ntmps161
  go_wp2_with (go_at_call 99; refine (none_is y D _ H.out.1).mono ?_; rintro e w' ⟨rfl, rfl⟩)
  have I1 := H.out.1.set_noK
  have o1 : Only y.three w' (((w'.setCell ⟨y.p, 6, none⟩ (.bool false)).setCell ⟨y.p, 7, none⟩ (.int .i64 0)).setCell ⟨y.p, 8, none⟩ (.slice none 0 0)) := (((Only.refl _ _).setCell (.inl (.inl rfl)) _).setCell (.inl (.inl rfl)) _).setCell (.inl (.inl rfl)) _
  have HI := Lib.hid (And.intro I1 o1)
  clear I1 o1
  generalize ((w'.setCell ⟨y.p, 6, none⟩ (.bool false)).setCell ⟨y.p, 7, none⟩ (.int .i64 0)).setCell ⟨y.p, 8, none⟩ (.slice none 0 0) = w1 at *
  clear c1 c4 f6 f7 f8 c6 c7 c8
  go_loopw [5, 24] (fun lo i wr => ∃ k : Nat, k ≤ D.waits.length ∧ i = .int .i64 (k : Int) ∧ lo = .int .i64 (lostN kl k : Int) ∧ IsD wr y.noK { D.disarm with lasts := D.crashL kl k } ∧ Only y.three w' wr) (fun _ i _ => D.waits.length - (intOf i).toNat)
  case atStart => exact ⟨0, Nat.zero_le _, rfl, rfl, HI.out.1, HI.out.2⟩
  case round =>
    obtain ⟨k, hkn, rfl, rfl, I, ho⟩ := hrel
    have hlo := lostN_le kl k
    by_cases hlt : k < D.waits.length
    · obtain rfl : wa = some ⟨y.W, 0, none⟩ := H.out.2.2.2.2 (by omega)
      have hx : D.waits[k]? = some D.waits[k] := List.getElem?_eq_getElem hlt
      have hxs : (D.waits[k]).2.size = 32 := (H.out.1.shp.blkW _ (List.getElem_mem hlt)).1
      have hxk : (D.waits[k]).1 < D.lasts.length := (H.out.1.shp.blkW _ (List.getElem_mem hlt)).2
      have hwr := (I.wait_at (k := k) hx).2
      have HX := Lib.hid hx
      clear hx
      generalize D.waits[k] = x at *
      have hl33 : (wcells x).length = 33 := by rw [wcells_len, hxs]
      have hrow : isRow wr (.pointer (some ⟨y.W, k * 33, none⟩)) 33 := ⟨_, _, _, rfl, hwr, hl33⟩
      have hval : (rowAt wr (.pointer (some ⟨y.W, k * 33, none⟩)) 33).toArray = warr (.int .i64 (x.1 : Int)) (bcells x.2) := by
        show (rowAt wr (.pointer (some ⟨y.noK.W, k * 33, none⟩)) 33).toArray = _
        rw [rowAt_eq hwr hl33]; rfl
      have hw1 : (warr (.int .i64 (x.1 : Int)) (bcells x.2)).all (·.oneCell') = true := all_oneCell_toArray (wcells_one x)
      have hwi : (Tryz.prog.info? 220).map (·.size) = some (warr (.int .i64 (x.1 : Int)) (bcells x.2)).size := by rw [warr_size, bcells_len, hxs]; exact writeSize
      have hws : 33 = (warr (.int .i64 (x.1 : Int)) (bcells x.2)).size := by rw [warr_size, bcells_len, hxs]
      have HR := Lib.hid (And.intro I (And.intro ho (And.intro hw1 (And.intro hwi (And.intro hws (And.intro hxs hxk))))))
      clear I ho hw1 hwi hws hwr hl33 hxs hxk
      by_cases hkk : k < kl.length
      · obtain ⟨a, rfl, hca⟩ := H.out.2.1.at_ k _ (List.getElem?_eq_getElem hkk)
        have hoff := H.out.2.1.off a (by omega) rfl
        have hab : (a.add k).block = a.block := by unfold Addr.add; split <;> rfl
        have hbl := HR.out.2.1.block a.block hoff.1 (fun q => by rcases q with q | q | q; exact hoff.2.1 q; exact hoff.2.2.1 q; exact hoff.2.2.2 q)
        have hcw : wr.cell? (a.add k) = some (.int .i64 kl[k]) := by
          rw [World.cell?_of_block (w := w') (a := a.add k) (by rw [hab]; exact hbl)]; exact hca
        have hcell : (wr.alloc (.cells (warr (.int .i64 (x.1 : Int)) (bcells x.2)) 220)).cell? (a.add k) = some (.int .i64 kl[k]) := by
          rw [World.cell?_alloc_lt _ _ _ (by rw [hab]; exact Nat.lt_of_lt_of_le hoff.1 HR.out.2.1.size)]; exact hcw
        have hkg : odd (kl.getD k 0) = odd kl[k] := by simp [List.getD, hkk]
        have HZ := Lib.hid hkg
        clear hca hoff hab hbl hcw hkg
        generalize kl[k] = z at *
        cases ho : odd z
        · have hbit : (bits .and .i64 z 1 == 1) = false := by rw [i64_and1]; exact ho
          have HE := Lib.hid (show odd (kl.getD k 0) = false by rw [HZ.out]; exact ho)
          clear ho
          go_wp2_with (refine wpList_store_new rfl 220 (.tmp 7) (.tmp 28) rfl _ (warr (.int .i64 (x.1 : Int)) (bcells x.2)) rfl rfl HR.out.2.2.2.1 HR.out.2.2.2.2.1 HR.out.2.2.1 ?_)
          refine ⟨⟨k + 1, by omega, by go_num, ?_, ?_, ?_⟩, by simp [intOf]; omega⟩
          · rw [lostN_even HE.out]; go_num
          · rw [crashL_even HX.out HE.out]; exact HR.out.1.alloc _
          · exact HR.out.2.1.alloc _
        · have hbit : (bits .and .i64 z 1 == 1) = true := by rw [i64_and1]; exact ho
          have HE := Lib.hid (show odd (kl.getD k 0) = true by rw [HZ.out]; exact ho)
          clear ho
          go_wp2_with (refine wpList_store_new rfl 220 (.tmp 7) (.tmp 28) rfl _ (warr (.int .i64 (x.1 : Int)) (bcells x.2)) rfl rfl HR.out.2.2.2.1 HR.out.2.2.2.2.1 HR.out.2.2.1 ?_)
          have I2 := HR.out.1.alloc (.cells (warr (.int .i64 (x.1 : Int)) (bcells x.2)) 220)
          have o2 := HR.out.2.1.alloc (.cells (warr (.int .i64 (x.1 : Int)) (bcells x.2)) 220)
          have hxs := HR.out.2.2.2.2.2.1
          have hxk := HR.out.2.2.2.2.2.2
          have r2 : (wr.alloc (.cells (warr (.int .i64 (x.1 : Int)) (bcells x.2)) 220)).rangeAt wr.heap.size 0 (.int .i64 (x.1 : Int) :: bcells x.2) := by
            have := World.rangeAt_of_block (heap_alloc_last wr (.cells (warr (.int .i64 (x.1 : Int)) (bcells x.2)) 220)) 0 33
            have e : (warr (.int .i64 (x.1 : Int)) (bcells x.2)).extract 0 (0 + 33) = warr (.int .i64 (x.1 : Int)) (bcells x.2) := by
              rw [Array.extract_eq_self_of_le]
              have := HR.out.2.2.2.2.1
              omega
            rw [e, warr_list] at this
            exact this
          have hLs : y.L < wr.heap.size := HR.out.1.small y.L (.inr (.inl rfl))
          generalize wr.alloc (.cells (warr (.int .i64 (x.1 : Int)) (bcells x.2)) 220) = w2 at *
          have hbL : wr.heap.size ≠ y.L := by omega
          generalize wr.heap.size = blk at *
          have r20 : w2.cell? ⟨blk, 0, none⟩ = some (.int .i64 (x.1 : Int)) := by simpa using r2 0 _ rfl
          have r21 : w2.rangeAt blk 1 (bcells x.2) := fun j v hv => by
            have := r2 (j + 1) v (by simpa using hv)
            rw [Nat.zero_add, Nat.add_comm] at this
            exact this
          have hlen := crashL_len D kl k
          have c2 := I2.head.c2
          change w2.cell? ⟨y.p, 2, none⟩ = some (.slice y.la (D.crashL kl k).length y.cL) at c2
          rw [hlen, show y.la = some ⟨y.L, 0, none⟩ from H.out.1.shp.laE (by omega)] at c2
          have t2 : w2.there y.L (x.1 * 32) 32 := fun j hj => by
            have := I2.bod.tL (x.1 * 32 + j) (by rw [show ({ D.disarm with lasts := D.crashL kl k } : Dsk).lasts.length = D.lasts.length from hlen]; have := Nat.mul_le_mul_right 32 (show x.1 + 1 ≤ D.lasts.length from hxk); omega)
            rw [Nat.zero_add] at this
            exact this
          have hpL : y.p ≠ y.L := fun e => (H.out.1.shp.nL (by omega)).1 e.symm
          have hu63 := Tryz.underlying190
          have h1b := bcells_one x.2
          have hlenb : (bcells x.2).length = 32 := by rw [bcells_len, hxs]
          have hi63 : (Tryz.prog.info? 190).map (·.size) = some (bcells x.2).length := by rw [hlenb]; exact blockSize
          have HK := Lib.hid (And.intro I2 (And.intro o2 (And.intro hxs hlen)))
          clear I2 o2 hxs hlen r2
          go_region_held3 (fun w' => w'.cell? ⟨y.p, 2, none⟩ = some (.slice (some ⟨y.L, 0, none⟩) D.lasts.length y.cL) ∧ w'.cell? ⟨blk, 0, none⟩ = some (.int .i64 (x.1 : Int)) ∧ w'.rangeAt blk 1 (bcells x.2) ∧ w'.there y.L (x.1 * 32) 32) (first
            | (simp only [World.cell?_drew]; go_keep_ranges)
            | (go_split_ands; exact ⟨(World.cell?_setCells_out _ _ _ _ _ (fun e => absurd e hpL)).trans (by assumption), (World.cell?_setCells_out _ _ _ _ _ (fun e => absurd e hbL)).trans (by assumption), World.rangeAt_setCells_apart (by assumption) _ _ _ (.inl hbL), World.there_setCells (by assumption) _ _ _⟩)) (first | fail)
          go_wp2
          refine ⟨⟨k + 1, by omega, by go_num, ?_, ?_, ?_⟩, by simp [intOf]; omega⟩
          · rw [lostN_odd HE.out]
          · rw [crashL_odd HX.out HE.out]; exact (HK.out.1.drew).set_lasts x.1 (by rw [show ({ D.disarm with lasts := D.crashL kl k } : Dsk).lasts.length = D.lasts.length from HK.out.2.2.2]; exact hxk) x.2 HK.out.2.2.1
          · exact Only.setCells (.inl (.inr (.inl rfl))) _ _ HK.out.2.1.drew
      · have HE := Lib.hid (show odd (kl.getD k 0) = false by simp [List.getD, List.getElem?_eq_none (show kl.length ≤ k by omega), odd])
        go_wp2_with (refine wpList_store_new rfl 220 (.tmp 7) (.tmp 28) rfl _ (warr (.int .i64 (x.1 : Int)) (bcells x.2)) rfl rfl HR.out.2.2.2.1 HR.out.2.2.2.2.1 HR.out.2.2.1 ?_)
        refine ⟨⟨k + 1, by omega, by go_num, ?_, ?_, ?_⟩, by simp [intOf]; omega⟩
        · rw [lostN_even HE.out]; go_num
        · rw [crashL_even HX.out HE.out]; exact HR.out.1.alloc _
        · exact HR.out.2.1.alloc _
    · obtain rfl : k = D.waits.length := by omega
      have c4 := I.head.c4
      have f4 := I.head.fz 4 (by omega)
      change wr.cell? ⟨y.p, 4, none⟩ = _ at c4
      change wr.frozen? ⟨y.p, 4, none⟩ = _ at f4
      have HR := Lib.hid (And.intro I ho)
      clear I ho hlt
      go_wp2
      have I2 := HR.out.1.set_noW
      have o2 : Only y.three w' (wr.setCell ⟨y.p, 4, none⟩ (.slice none 0 0)) := HR.out.2.setCell (.inl (.inl rfl)) _
      change IsD (wr.setCell ⟨y.p, 4, none⟩ (.slice none 0 0)) _ _ at I2
      generalize wr.setCell ⟨y.p, 4, none⟩ (.slice none 0 0) = w2 at *
      have hpN : 0 < D.lasts.length → y.p ≠ y.N := fun q e => (H.out.1.shp.nL q).2.1 e.symm
      have hcr := copyRun I2.drew
      have I3 := I2.drew.copied
      have o3 : Only y.three w' (w2.drew.setCells y.N 0 ((D.crashL kl D.waits.length).map bcells).flatten) := Only.setCells (.inl (.inr (.inr rfl))) _ _ o2.drew
      have hfl : ((D.crashL kl D.waits.length).map bcells).flatten.length = D.lasts.length * 32 := by
        rw [flatten_len (bmap_len I2.shp.blkL), List.length_map, crashL_len]
      change (Builtin.copy_ _ _ #[.slice y.na D.now.length y.cN, .slice y.la (D.crashL kl D.waits.length).length y.cL]).run _ _ = .ok (.int .i64 ((D.crashL kl D.waits.length).length : Int)) (w2.drew.setCells y.N 0 ((D.crashL kl D.waits.length).map bcells).flatten) at hcr
      change IsD (w2.drew.setCells y.N 0 ((D.crashL kl D.waits.length).map bcells).flatten) _ _ at I3
      have c2 := I2.head.c2
      have c3 := I2.head.c3
      change w2.cell? ⟨y.p, 2, none⟩ = some (.slice y.la (D.crashL kl D.waits.length).length y.cL) at c2
      change w2.cell? ⟨y.p, 3, none⟩ = some (.slice y.na D.now.length y.cN) at c3
      have c1 := I3.head.c1
      have f1 := I3.head.fz 1 (by omega)
      have d2 := I3.head.c2
      have d3 := I3.head.c3
      change (w2.drew.setCells y.N 0 ((D.crashL kl D.waits.length).map bcells).flatten).cell? ⟨y.p, 1, none⟩ = _ at c1
      change (w2.drew.setCells y.N 0 ((D.crashL kl D.waits.length).map bcells).flatten).frozen? ⟨y.p, 1, none⟩ = _ at f1
      have HD := Lib.hid (And.intro hcr (And.intro I3 (And.intro o3 (And.intro (And.intro d2 d3) (And.intro c1 f1)))))
      clear I2 o2 hcr I3 o3 d2 d3 c4 f4 c1 f1
      have hcell : ∀ j, j = 2 ∨ j = 3 → (w2.drew.setCells y.N 0 ((D.crashL kl D.waits.length).map bcells).flatten).cell? ⟨y.p, j, none⟩ = w2.cell? ⟨y.p, j, none⟩ := fun j _ => by
        rcases Nat.eq_zero_or_pos D.lasts.length with q | q
        · have e : ((D.crashL kl D.waits.length).map bcells).flatten = [] := List.eq_nil_of_length_eq_zero (by rw [hfl, q])
          rw [e]; rfl
        · rw [World.cell?_setCells_out _ _ _ _ _ (fun e => absurd e (hpN q))]; rfl
      have HC := Lib.hid hcell
      clear hcell hfl hpN
      go_region_held_law (fun u => u.cell? ⟨y.p, 3, none⟩ = some (.slice y.na D.now.length y.cN) ∧ u.cell? ⟨y.p, 2, none⟩ = some (.slice y.la (D.crashL kl D.waits.length).length y.cL)) (first
        | (simp only [World.cell?_drew]; exact ⟨c3, c2⟩)
        | (exact ⟨(HC.out 3 (.inr rfl)).trans c3, (HC.out 2 (.inl rfl)).trans c2⟩)) (first
        | (refine step_builtin_run rfl (.tmp 59) (.tmp 63) 125 125 rfl _ _ _ rfl rfl HD.out.1 ?_))
      have c1 := HD.out.2.2.2.2.1
      have f1 := HD.out.2.2.2.2.2
      have hlo' := hlo
      clear c2 c3
      generalize w2.drew.setCells y.N 0 ((D.crashL kl D.waits.length).map bcells).flatten = w3 at *
      go_wp2
      go_ret
      refine ⟨rfl, y.noK.noW, rfl, ?_, ?_, ?_⟩
      · exact HD.out.2.1.set_on false
      · intro b q
        rcases q with q | q | q | q | q
        · exact .inl (.inl q)
        · exact .inl (.inr (.inl q))
        · exact .inl (.inr (.inr (.inl q)))
        · exact .inl (.inl q)
        · exact .inl (.inl q)
      · exact (HD.out.2.2.1.setCell (.inl (.inl rfl)) _).mono (fun i _ q => by
          rcases q with q | q | q
          · exact .inl q
          · exact .inr (.inl q)
          · exact .inr (.inr (.inl q)))
end Go.Proofs.YtbghglkplbnnkaaGreatDoor.Sec
-- SecFall
namespace Go.Proofs.YtbghglkplbnnkaaGreatDoor.Sec
open Go.RowKit

theorem IsD.keepIs {w : World} {y : Lay} {D : Dsk} (h : IsD w y D) : KeepIs w y y.ka D.keep where
  at_ := fun j z hz => ⟨⟨y.K, 0, none⟩, h.shp.kaE (Nat.lt_of_le_of_lt (Nat.zero_le _) (List.getElem?_eq_some_iff.1 hz).1), by rw [Addr.add_mid, Nat.zero_add]; exact h.bod.rK j z hz⟩
  off := fun a h0 ha => by
    rw [h.shp.kaE h0] at ha
    obtain rfl : (⟨y.K, 0, none⟩ : Addr) = a := by simpa using ha
    have := h.shp.nK h0
    exact ⟨h.small _ (.inr (.inr (.inr (.inr rfl)))), this.1, this.2.1, this.2.2.1⟩

set_option maxRecDepth 100000 in
set_option maxHeartbeats 1000000 in
theorem fall_is (y : Lay) (D : Dsk) (w : World) (h : IsD w y D) (hon : D.on = true) :
    Calls Tryz.prog 143 #[.pointer (some ⟨y.p, 0, none⟩)] w fun e w' => e = .returned (.int .i64 3) ∧ Goes y w (D.crash D.keep) w' := by
  have c8 := h.head.c8
  have H := Lib.hid (And.intro h hon)
  clear h hon
  go_enter Tryz.func143, Tryz.ntmps143
  go_wp2_with (go_at_call 161; refine (Crash_on y D _ y.ka D.keep y.cK H.out.1 H.out.1.keepIs H.out.1.shp.keepB H.out.2).mono ?_; rintro e w' ⟨rfl, hg⟩)
  go_ret
  exact ⟨rfl, hg⟩

def Dsk.barL (D : Dsk) : Nat → List ByteArray
  | 0 => D.lasts
  | n + 1 => match D.waits[n]? with
    | some x => (D.barL n).set x.1 x.2
    | none => D.barL n
theorem barL_len (D : Dsk) : ∀ n, (D.barL n).length = D.lasts.length
  | 0 => rfl
  | n + 1 => by
    have := barL_len D n
    unfold Dsk.barL
    split
    · simp [this]
    · exact this
theorem barL_step {D : Dsk} {k : Nat} {x : Nat × ByteArray} (hx : D.waits[k]? = some x) : D.barL (k + 1) = (D.barL k).set x.1 x.2 := by rw [Dsk.barL, hx]
def Dsk.bar (D : Dsk) : Dsk := { D with lasts := D.barL D.waits.length, waits := [], deeds := D.deeds + 1 }

theorem mayB_on {D : Dsk} (h : D.mayB = 0) : D.on = true := by
  unfold Dsk.mayB at h
  split at h
  · assumption
  · cases h

theorem Goes.fold {y y1 : Lay} {w w1 w2 : World} {D2 : Dsk} (hp : y1.p = y.p) (hf : ∀ b, y1.foot b → y.foot b ∨ w.heap.size ≤ b) (ho : Only y.foot w w1) (g : Goes y1 w1 D2 w2) : Goes y w D2 w2 := by
  obtain ⟨y2, hp2, hi2, hf2, ho2⟩ := g
  refine ⟨y2, hp2.trans hp, hi2, fun b q => ?_, ho.trans ho2 fun i hi q => ?_⟩
  · rcases hf2 b q with q | q
    · exact hf b q
    · exact .inr (Nat.le_trans ho.size q)
  · rcases hf i q with q | q
    · exact q
    · omega

set_option maxRecDepth 100000 in
set_option maxHeartbeats 1000000 in
theorem Barrier_not (y : Lay) (D : Dsk) (w : World) (h : IsD w y D) (hm : D.mayB ≠ 0) :
    Calls Tryz.prog 119 #[.pointer (some ⟨y.p, 0, none⟩)] w fun e w' => e = .returned (.int .i64 D.mayB) ∧ w' = w := by
  have hb : (D.mayB == 0) = false := by simpa using hm
  have hb' : (D.mayB != 0) = true := by simpa using hm
  have H := Lib.hid h
  clear h hm
  go_enter Tryz.func119, Tryz.ntmps119
  go_wp2_with (go_at_call 126; refine (mayB_is y D _ _ _ H.out).mono ?_; rintro e w' ⟨rfl, rfl⟩)
  go_ret
  exact ⟨rfl, rfl⟩

set_option maxRecDepth 100000 in
set_option maxHeartbeats 1000000 in
theorem Barrier_falls (y : Lay) (D : Dsk) (w : World) (h : IsD w y D) (hm : D.mayB = 0) (hf : D.fallsNow = true) :
    Calls Tryz.prog 119 #[.pointer (some ⟨y.p, 0, none⟩)] w fun e w' => e = .returned (.int .i64 3) ∧ Goes y w (D.crash D.keep) w' := by
  have hon := mayB_on hm
  have H := Lib.hid (And.intro h (And.intro hm (And.intro hf hon)))
  clear h hm hf hon
  go_enter Tryz.func119, Tryz.ntmps119
  go_wp2_with (first
    | (go_at_call 126; refine (mayB_is y D _ _ _ H.out.1).mono ?_; rintro e w' ⟨rfl, rfl⟩; rw [H.out.2.1])
    | (go_at_call 142; refine (falls_yes y D _ H.out.1 H.out.2.2.1).mono ?_; rintro e w' ⟨rfl, rfl⟩)
    | (go_at_call 143; refine (fall_is y D _ H.out.1 H.out.2.2.2).mono ?_; rintro e w' ⟨rfl, hg⟩))
  go_ret
  exact ⟨rfl, hg⟩

attribute [local go_sem ↓] load_write
set_option maxRecDepth 100000 in
set_option maxHeartbeats 1000000 in
theorem Barrier_ok (y : Lay) (D : Dsk) (w : World) (h : IsD w y D) (hm : D.mayB = 0) (hf : D.fallsNow = false) (hdd : D.deeds + 1 < 2 ^ 60) :
    Calls Tryz.prog 119 #[.pointer (some ⟨y.p, 0, none⟩)] w fun e w' => e = .returned (.int .i64 0) ∧ Goes y w D.down.bar w' := by
  have hdown : D.down.deeds = D.deeds := by unfold Dsk.down; split <;> rfl
  rw [← hdown] at hdd
  clear hdown
  generalize hE : D.down = E at *
  have H := Lib.hid (And.intro h (And.intro hm (And.intro hf hE)))
  clear h hm hf hE
  go_enter Tryz.func119, Tryz.ntmps119
  go_wp2_with (first
    | (go_at_call 126; refine (mayB_is y D _ _ _ H.out.1).mono ?_; rintro e w' ⟨rfl, rfl⟩; rw [H.out.2.1])
    | (go_at_call 142; refine (falls_no y D _ H.out.1 H.out.2.2.1).mono ?_; rintro e w1 ⟨rfl, I1, o1⟩
       rw [H.out.2.2.2] at I1
       have c4 := I1.head.c4
       have hwB := I1.shp.waitsB
       have hwa : 0 < E.waits.length → y.wa = some ⟨y.W, 0, none⟩ := fun q => (I1.wait_at (List.getElem?_eq_getElem q)).1
       generalize hwv : y.wa = wa at *
       have HI := Lib.hid (And.intro I1 (And.intro o1 (And.intro hwa hwv)))
       clear I1 o1 hwa hwv))
  clear c4
  go_loopw [20] (fun i wr => ∃ k : Nat, k ≤ E.waits.length ∧ i = .int .i64 (k : Int) ∧ IsD wr y { E with lasts := E.barL k } ∧ Only y.three w1 wr) (fun i _ => E.waits.length - (intOf i).toNat)
  case atStart => exact ⟨0, Nat.zero_le _, rfl, HI.out.1, Only.refl _ _⟩
  case round =>
    obtain ⟨k, hkn, rfl, I, ho⟩ := hrel
    by_cases hlt : k < E.waits.length
    · obtain rfl : wa = some ⟨y.W, 0, none⟩ := HI.out.2.2.1 (by omega)
      have hx : E.waits[k]? = some E.waits[k] := List.getElem?_eq_getElem hlt
      have hxs : (E.waits[k]).2.size = 32 := (HI.out.1.shp.blkW _ (List.getElem_mem hlt)).1
      have hxk : (E.waits[k]).1 < E.lasts.length := (HI.out.1.shp.blkW _ (List.getElem_mem hlt)).2
      have hwr := (I.wait_at (k := k) hx).2
      have HX := Lib.hid hx
      clear hx
      generalize E.waits[k] = x at *
      have hl33 : (wcells x).length = 33 := by rw [wcells_len, hxs]
      have hrow : isRow wr (.pointer (some ⟨y.W, k * 33, none⟩)) 33 := ⟨_, _, _, rfl, hwr, hl33⟩
      have hval : (rowAt wr (.pointer (some ⟨y.W, k * 33, none⟩)) 33).toArray = warr (.int .i64 (x.1 : Int)) (bcells x.2) := by
        rw [rowAt_eq hwr hl33]; rfl
      have hw1 : (warr (.int .i64 (x.1 : Int)) (bcells x.2)).all (·.oneCell') = true := all_oneCell_toArray (wcells_one x)
      have hwi : (Tryz.prog.info? 220).map (·.size) = some (warr (.int .i64 (x.1 : Int)) (bcells x.2)).size := by rw [warr_size, bcells_len, hxs]; exact writeSize
      have hws : 33 = (warr (.int .i64 (x.1 : Int)) (bcells x.2)).size := by rw [warr_size, bcells_len, hxs]
      have HR := Lib.hid (And.intro I (And.intro ho (And.intro hw1 (And.intro hwi (And.intro hws (And.intro hxs hxk))))))
      clear I ho hw1 hwi hws hwr hl33 hxs hxk
      go_wp2_with (refine wpList_store_new rfl 220 (.tmp 5) (.tmp 23) rfl _ (warr (.int .i64 (x.1 : Int)) (bcells x.2)) rfl rfl HR.out.2.2.2.1 HR.out.2.2.2.2.1 HR.out.2.2.1 ?_)
      have I2 := HR.out.1.alloc (.cells (warr (.int .i64 (x.1 : Int)) (bcells x.2)) 220)
      have o2 := HR.out.2.1.alloc (.cells (warr (.int .i64 (x.1 : Int)) (bcells x.2)) 220)
      have hxs := HR.out.2.2.2.2.2.1
      have hxk := HR.out.2.2.2.2.2.2
      have r2 : (wr.alloc (.cells (warr (.int .i64 (x.1 : Int)) (bcells x.2)) 220)).rangeAt wr.heap.size 0 (.int .i64 (x.1 : Int) :: bcells x.2) := by
        have := World.rangeAt_of_block (heap_alloc_last wr (.cells (warr (.int .i64 (x.1 : Int)) (bcells x.2)) 220)) 0 33
        have e : (warr (.int .i64 (x.1 : Int)) (bcells x.2)).extract 0 (0 + 33) = warr (.int .i64 (x.1 : Int)) (bcells x.2) := by
          rw [Array.extract_eq_self_of_le]
          have := HR.out.2.2.2.2.1
          omega
        rw [e, warr_list] at this
        exact this
      have hLs : y.L < wr.heap.size := HR.out.1.small y.L (.inr (.inl rfl))
      generalize wr.alloc (.cells (warr (.int .i64 (x.1 : Int)) (bcells x.2)) 220) = w2 at *
      have hbL : wr.heap.size ≠ y.L := by omega
      generalize wr.heap.size = blk at *
      have r20 : w2.cell? ⟨blk, 0, none⟩ = some (.int .i64 (x.1 : Int)) := by simpa using r2 0 _ rfl
      have r21 : w2.rangeAt blk 1 (bcells x.2) := fun j v hv => by
        have := r2 (j + 1) v (by simpa using hv)
        rw [Nat.zero_add, Nat.add_comm] at this
        exact this
      have hlen := barL_len E k
      have c2 := I2.head.c2
      change w2.cell? ⟨y.p, 2, none⟩ = some (.slice y.la (E.barL k).length y.cL) at c2
      rw [hlen, show y.la = some ⟨y.L, 0, none⟩ from HI.out.1.shp.laE (by omega)] at c2
      have t2 : w2.there y.L (x.1 * 32) 32 := fun j hj => by
        have := I2.bod.tL (x.1 * 32 + j) (by rw [show ({ E with lasts := E.barL k } : Dsk).lasts.length = E.lasts.length from hlen]; have := Nat.mul_le_mul_right 32 (show x.1 + 1 ≤ E.lasts.length from hxk); omega)
        rw [Nat.zero_add] at this
        exact this
      have hpL : y.p ≠ y.L := fun e => (HI.out.1.shp.nL (by omega)).1 e.symm
      have hu63 := Tryz.underlying190
      have h1b := bcells_one x.2
      have hlenb : (bcells x.2).length = 32 := by rw [bcells_len, hxs]
      have hi63 : (Tryz.prog.info? 190).map (·.size) = some (bcells x.2).length := by rw [hlenb]; exact blockSize
      have HK := Lib.hid (And.intro I2 (And.intro o2 (And.intro hxs hlen)))
      clear I2 o2 hxs hlen r2
      go_region_held3 (fun w' => w'.cell? ⟨y.p, 2, none⟩ = some (.slice (some ⟨y.L, 0, none⟩) E.lasts.length y.cL) ∧ w'.cell? ⟨blk, 0, none⟩ = some (.int .i64 (x.1 : Int)) ∧ w'.rangeAt blk 1 (bcells x.2) ∧ w'.there y.L (x.1 * 32) 32) (first
        | (simp only [World.cell?_drew]; go_keep_ranges)
        | (go_split_ands; exact ⟨(World.cell?_setCells_out _ _ _ _ _ (fun e => absurd e hpL)).trans (by assumption), (World.cell?_setCells_out _ _ _ _ _ (fun e => absurd e hbL)).trans (by assumption), World.rangeAt_setCells_apart (by assumption) _ _ _ (.inl hbL), World.there_setCells (by assumption) _ _ _⟩)) (first | fail)
      go_wp2
      refine ⟨⟨k + 1, by omega, by go_num, ?_, ?_⟩, by simp [intOf]; omega⟩
      · rw [barL_step HX.out]; exact (HK.out.1.drew).set_lasts x.1 (by rw [show ({ E with lasts := E.barL k } : Dsk).lasts.length = E.lasts.length from HK.out.2.2.2]; exact hxk) x.2 HK.out.2.2.1
      · exact Only.setCells (.inl (.inr (.inl rfl))) _ _ HK.out.2.1.drew
    · obtain rfl : k = E.waits.length := by omega
      have c4 := I.head.c4
      have f4 := I.head.fz 4 (by omega)
      have c5 := I.head.c5
      have f5 := I.head.fz 5 (by omega)
      change wr.cell? ⟨y.p, 5, none⟩ = some (.int .i64 (E.deeds : Int)) at c5
      have hdd' : (E.deeds : Int) + 1 < 1152921504606846976 := by omega
      have HR := Lib.hid (And.intro I ho)
      clear I ho hlt
      go_wp2
      go_ret
      have I5 := (HR.out.1.set_noW).set_deeds (E.deeds + 1) hdd
      have o5 := (HI.out.2.1).trans ((HR.out.2.setCell (p := ⟨y.p, 4, none⟩) (.inl (.inl rfl)) (.slice none 0 0)).setCell (p := ⟨y.p, 5, none⟩) (.inl (.inl rfl)) (.int .i64 ((E.deeds + 1 : Nat) : Int))) (fun i _ q => by
        rcases q with q | q | q
        · exact .inl q
        · exact .inr (.inl q)
        · exact .inr (.inr (.inl q)))
      rw [show ((E.deeds + 1 : Nat) : Int) = (E.deeds : Int) + 1 by omega] at I5 o5
      refine ⟨rfl, y.noW, rfl, I5, ?_, o5⟩
      intro b q
      rcases q with q | q | q | q | q
      · exact .inl (.inl q)
      · exact .inl (.inr (.inl q))
      · exact .inl (.inr (.inr (.inl q)))
      · exact .inl (.inl q)
      · exact .inl (.inr (.inr (.inr (.inr q))))
end Go.Proofs.YtbghglkplbnnkaaGreatDoor.Sec
-- SecWrite
namespace Go.Proofs.YtbghglkplbnnkaaGreatDoor.Sec
open Go.RowKit

def Dsk.push (D : Dsk) (k : Nat) (b : ByteArray) : Dsk := { D with now := D.now.set k b, waits := D.waits ++ [(k, b)] }
def Dsk.deed (D : Dsk) : Dsk := { D with deeds := D.deeds + 1 }
theorem down_deeds (D : Dsk) : D.down.deeds = D.deeds := by unfold Dsk.down; split <;> rfl
theorem mayW_on {D : Dsk} {m : Nat} {b : ByteArray} (h : D.mayW m b = 0) : D.on = true := by
  unfold Dsk.mayW at h
  split at h
  · assumption
  · cases h
theorem mayW_lt {D : Dsk} {m : Nat} {b : ByteArray} (h : D.mayW m b = 0) : m < D.lasts.length := by
  unfold Dsk.mayW Dsk.has at h
  split at h
  · split at h
    · rename_i q
      simp at q
      omega
    · cases h
  · cases h

attribute [local go_sem ↓] load_write buildSlice_op
set_option maxRecDepth 100000 in
set_option maxHeartbeats 1000000 in
theorem Write_ok (y : Lay) (D : Dsk) (m : Nat) (b : ByteArray) (hb : b.size = 32) (w : World) (h : IsD w y D) (hm : D.mayW m b = 0) (hwc : D.waits.length + 1 < 2 ^ 40) (hdd : D.deeds + 1 < 2 ^ 60) :
    Calls Tryz.prog 118 #[.pointer (some ⟨y.p, 0, none⟩), .int .i64 (m : Int), .string b] w fun e w' => (D.fallsNow = true ∧ e = .returned (.int .i64 3) ∧ Goes y w ((D.push m b).crash D.keep) w') ∨ (D.fallsNow = false ∧ e = .returned (.int .i64 0) ∧ Goes y w ((D.push m b).down.deed) w') := by
  have H := Lib.hid h
  have hdd' := hdd
  have HM := Lib.hid hm
  have HB := Lib.hid (show (bcells b).length = 32 by rw [bcells_len, hb])
  have hw1 : (warr (.int .i64 (m : Int)) (bcells b)).all (·.oneCell') = true := all_oneCell_toArray (wcells_one (m, b))
  have hwi : (Tryz.prog.info? 220).map (·.size) = some (warr (.int .i64 (m : Int)) (bcells b)).size := by rw [warr_size, bcells_len, hb]; exact writeSize
  have hws : 33 = (warr (.int .i64 (m : Int)) (bcells b)).size := by rw [warr_size, bcells_len, hb]
  have HH := Lib.hid (And.intro hw1 (And.intro hwi hws))
  clear hm h hw1 hwi hws
  go_enter Tryz.func118, Tryz.ntmps118
  go_wp2_with (first
    | (go_at_call 126; refine (mayW_is y D _ _ _ H.out).mono ?_; rintro e w' ⟨rfl, rfl⟩; rw [HM.out])
    | (go_at_call 141; refine (blockOf_is b hb _).mono ?_; rintro e w1 ⟨rfl, ho1⟩)
    | (refine wpList_build_write rfl (.tmp 16) (.tmp 18) rfl (m : Int) (bcells b) rfl rfl HB.out ?_)
    | (refine wpList_store_new rfl 220 (.tmp 8) (.tmp 19) rfl _ (warr (.int .i64 (m : Int)) (bcells b)) rfl rfl HH.out.2.1 HH.out.2.2 HH.out.1 ?_))
  have I1 : IsD w1 y D := H.out.only ho1 (fun _ _ q => q)
  have hk : m < D.lasts.length := mayW_lt HM.out
  have hmN : m < D.now.length := by rw [I1.shp.len]; exact hk
  have I2 : IsD (w1.alloc (.cells (warr (.int .i64 (m : Int)) (bcells b)) 220)) y D := I1.alloc _
  have r2 : (w1.alloc (.cells (warr (.int .i64 (m : Int)) (bcells b)) 220)).rangeAt w1.heap.size 0 (.int .i64 (m : Int) :: bcells b) := by
    have := World.rangeAt_of_block (heap_alloc_last w1 (.cells (warr (.int .i64 (m : Int)) (bcells b)) 220)) 0 33
    have e : (warr (.int .i64 (m : Int)) (bcells b)).extract 0 (0 + 33) = warr (.int .i64 (m : Int)) (bcells b) := by
      rw [Array.extract_eq_self_of_le]
      have := HH.out.2.2
      omega
    rw [e, warr_list] at this
    exact this
  have o2 : Only y.foot w' (w1.alloc (.cells (warr (.int .i64 (m : Int)) (bcells b)) 220)) := (ho1.mono (fun _ _ q => q.elim)).alloc _
  have hblk : w'.heap.size ≤ w1.heap.size := ho1.size
  have hlt2 : w1.heap.size < (w1.alloc (.cells (warr (.int .i64 (m : Int)) (bcells b)) 220)).heap.size := by simp
  generalize w1.alloc (.cells (warr (.int .i64 (m : Int)) (bcells b)) 220) = w2 at *
  generalize w1.heap.size = blk at *
  have r21 : w2.rangeAt blk 1 (bcells b) := fun j v hv => by
    have := r2 (j + 1) v (by simpa using hv)
    rw [Nat.zero_add, Nat.add_comm] at this
    exact this
  have c3 := I2.head.c3
  rw [I2.shp.naE (by omega)] at c3
  have t2 : w2.there y.N (m * 32) 32 := fun j hj => by
    have := I2.bod.tN (m * 32 + j) (by have := Nat.mul_le_mul_right 32 (show m + 1 ≤ D.lasts.length from hk); omega)
    rw [Nat.zero_add] at this
    exact this
  have hu63 := Tryz.underlying190
  have hi63 : (Tryz.prog.info? 190).map (·.size) = some (bcells b).length := by rw [HB.out]; exact blockSize
  have h1b := bcells_one b
  have hlenb : (bcells b).length = 32 := HB.out
  have hpN : y.p ≠ y.N := fun e => (I2.shp.nL (by omega)).2.1 e.symm
  have hbN : blk ≠ y.N := by have := H.out.small y.N (.inr (.inr (.inl rfl))); omega
  have HK := Lib.hid (And.intro I2 (And.intro r2 (And.intro o2 (And.intro hblk hlt2))))
  clear I1 ho1 r2 o2 hblk hlt2 I2
  go_region_held3 (fun w' => w'.cell? ⟨y.p, 3, none⟩ = some (.slice (some ⟨y.N, 0, none⟩) D.now.length y.cN) ∧ w'.rangeAt blk 1 (bcells b) ∧ w'.there y.N (m * 32) 32) (first
    | go_keep_ranges
    | (go_split_ands; exact ⟨(World.cell?_setCells_out _ _ _ _ _ (fun e => absurd e hpN)).trans (by assumption), World.rangeAt_setCells_apart (by assumption) _ _ _ (.inl hbN), World.there_setCells (by assumption) _ _ _⟩)) (first | fail)
  obtain ⟨I2, r2, o2, hblk, hlt2⟩ := HK.out
  have I3 := (I2.drew).set_now m hk b hb
  have r3 : (w2.drew.setCells y.N (m * 32) (bcells b)).rangeAt blk 0 (.int .i64 (m : Int) :: bcells b) := World.rangeAt_setCells_apart ((World.rangeAt_drew _ _ _ _).2 r2) _ _ _ (.inl hbN)
  have o3 : Only y.foot w' (w2.drew.setCells y.N (m * 32) (bcells b)) := Only.setCells (.inl (.inr (.inr (.inl rfl)))) _ _ o2.drew
  have hlt3 : blk < (w2.drew.setCells y.N (m * 32) (bcells b)).heap.size := by rw [size_setCells']; exact hlt2
  rename_i hheld
  clear hheld I2 r2 o2 hlt2 HK r21 c3 t2 hu63 hi63 h1b hlenb hpN hbN
  generalize w2.drew.setCells y.N (m * 32) (bcells b) = w3 at *
  have c4 := I3.head.c4
  have f4 := I3.head.fz 4 (by omega)
  have hbs := buildSlice_write (m : Int) (bcells b) HB.out
  obtain ⟨hA1, hAi, hAs⟩ := HH.out
  have hwl := warr_list (.int .i64 (m : Int)) (bcells b)
  rw [← hwl] at r3
  have hwc : (warr (.int .i64 (m : Int)) (bcells b)).toList = wcells (m, b) := hwl
  have HW := Lib.hid hwc
  clear hwl hwc HH
  generalize warr (.int .i64 (m : Int)) (bcells b) = A at *
  obtain ⟨i0, hi0, hz0, hz1, hz2⟩ := info_parts writeInfo
  have hA1' : ∀ v ∈ A.toList, v.oneCell' = true := fun v hv => (Array.all_eq_true_iff_forall_mem.1 hA1) v (by simpa using hv)
  have hu66 := Tryz.underlying220
  have hi66 : (Tryz.prog.info? 220).map (·.size) = some A.toList.length := by simpa using hAi
  have hl66 : A.toList.length = 33 := by simpa using hAs.symm
  have own3 := I3.bod.oW
  have hps := I3.small y.p (.inl rfl)
  have hwB := I3.shp.waitsB
  have HO := Lib.hid (And.intro own3 (And.intro hi0 (And.intro hz0 (And.intro hz1 hz2))))
  have hWs := I3.small y.W (.inr (.inr (.inr (.inl rfl))))
  have hWp := I3.shp.nW
  have hob : ∀ k, Value.ownBlock (.slice y.wa D.waits.length y.cW) = some k → k = y.W ∧ y.wa ≠ none := fun k hk => by
    rcases I3.shp.waE with q | q
    · rw [q] at hk; simp [Value.ownBlock] at hk
    · rw [q] at hk ⊢; simp [Value.ownBlock] at hk; exact ⟨hk.symm, by simp⟩
  have HK := Lib.hid (And.intro I3 (And.intro o3 (And.intro hblk (And.intro hlt3 (And.intro hAi (And.intro hAs (And.intro hWp (And.intro hob hWs))))))))
  clear I3 o3 hblk own3 hi0 hz0 hz1 hz2 hA1 hAi hAs hWp hob
  go_wp2
  have r4 : w3.drew.rangeAt blk 0 A.toList := (World.rangeAt_drew _ _ _ _).2 r3
  have hrow : isRow w3.drew (.pointer (some ⟨blk, 0, none⟩)) 33 := ⟨_, _, _, rfl, r4, hl66⟩
  have hval : (rowAt w3.drew (.pointer (some ⟨blk, 0, none⟩)) 33).toArray = A := by rw [rowAt_eq r4 hl66]
  have HA := Lib.hid (And.intro hA1' hl66)
  have hagg : isAgg (.agg A) 33 := ⟨A, rfl, by simpa using hl66⟩
  clear hbs
  clear hA1' hl66 r4 r3 hu66 hi66
  have hpne : some y.p ≠ Value.ownBlock (.slice y.wa D.waits.length y.cW) := fun e => by
    obtain ⟨_, _, _, _, _, _, hWp, hob, _⟩ := HK.out
    obtain ⟨q1, q2⟩ := hob _ e.symm
    exact (hWp q2).1 q1.symm
  go_region_law (first
    | (refine step_append_lies _ rfl (.tmp 32) (.tmp 34) 126 rfl 0 220 i0 _ 33 40 Tryz.underlying126 HO.out.2.1 HO.out.2.2.1 HO.out.2.2.2.1 HO.out.2.2.2.2 (by rfl) (by omega)
        (.slice y.wa D.waits.length y.cW) D.waits.length (D.waits.flatMap wcells) rfl (by exact (HO.out.1.alloc _).drew) _ 1 1 A.toList rfl (by rw [HA.out.2]) (by exact World.news_of_block (heap_alloc_last _ _)) HA.out.1 (by omega) (by unfold maxLen; omega) (by omega) (by omega) _ rfl ?_
       intro g cap w4 hown4 hgr4 hat4 hlt4
       have b4 := hgr4.block y.p (by simp; omega) hpne
       have d4 : w4.cell? ⟨y.p, 4, none⟩ = some (.slice y.wa D.waits.length y.cW) := (World.cell?_of_block (a := ⟨y.p, 4, none⟩) b4).trans (by exact ((HK.out.1.alloc _).drew).head.c4)
       have g4 : w4.frozen? ⟨y.p, 4, none⟩ = false := (World.frozen?_of_block (a := ⟨y.p, 4, none⟩) b4).trans (by exact ((HK.out.1.alloc _).drew).head.fz 4 (by omega))))
  all_goals
    have hB1 : D.waits.length + 1 < 2 ^ 40 := hwc
    rw [HW.out] at hown4
    have PW := IsD.push_waits ((HK.out.1.alloc (.cells A 220)).drew) (m, b) ⟨hb, hk⟩ hB1 g cap hown4 hgr4 (hat4.imp id (fun e => by rw [e]; exact Nat.le_refl _)) hlt4
    have G : Goes y w' (D.push m b) (w4.setCell ⟨y.p, 4, none⟩ (.slice (some ⟨g, 0, none⟩) (D.waits.length + 1) cap)) :=
      ⟨y.newW g cap, rfl, PW.1, fun q hq => (PW.2.1 q hq).imp id (fun e => Nat.le_trans HK.out.2.1.size (Nat.le_trans (by simp) e)), (HK.out.2.1.alloc _).drew.trans PW.2.2 (fun _ _ q => q)⟩
    clear PW b4 d4 g4 hown4 hgr4 hat4 hlt4 hpne hagg hval hrow HA HK HO HW c4 f4
    generalize w4.setCell ⟨y.p, 4, none⟩ (.slice (some ⟨g, 0, none⟩) (D.waits.length + 1) cap) = w5 at *
    obtain ⟨y1, hp1, I5, hf5, o5⟩ := G
    have hdp : (D.push m b).deeds = D.deeds := rfl
    have hon : (D.push m b).on = true := mayW_on HM.out
    have HP := Lib.hid (And.intro hp1 (And.intro I5 (And.intro hf5 (And.intro o5 hon))))
    clear I5 hf5 o5 hdp hon
    cases hfl : D.fallsNow
    · have HF := Lib.hid (show (D.push m b).fallsNow = false from hfl)
      have hpd : (D.push m b).down.deeds = D.deeds := down_deeds _
      generalize hE : (D.push m b).down = E at *
      have HE := Lib.hid (And.intro hE hpd)
      clear hfl hE hp1 hpd
      go_wp2_with (go_at_call 142; have hcf := falls_no y1 (D.push m b) _ HP.out.2.1 HF.out; rw [HP.out.1] at hcf; refine hcf.mono ?_; rintro e w6 ⟨rfl, I6, o6⟩; rw [HE.out.1] at I6; have c5 := I6.head.c5; have f5 := I6.head.fz 5 (by omega); rw [HP.out.1, HE.out.2] at c5; rw [HP.out.1] at f5; have H6 := Lib.hid (And.intro I6 o6); clear I6 o6 hcf)
      go_ret
      refine .inr ⟨HF.out, rfl, ?_⟩
      refine Goes.fold HP.out.1 HP.out.2.2.1 HP.out.2.2.2.1 ?_
      have I7 := H6.out.1.set_deeds (D.deeds + 1) hdd
      rw [show ((D.deeds + 1 : Nat) : Int) = (D.deeds : Int) + 1 by omega, HP.out.1] at I7
      refine ⟨y1, rfl, ?_, fun _ q => .inl q, H6.out.2.setCell (.inl (.inl HP.out.1.symm)) _⟩
      have e : ({ E with deeds := D.deeds + 1 } : Dsk) = E.deed := by rw [Dsk.deed, HE.out.2]
      rw [HE.out.1, ← e]
      exact I7
    · have HF := Lib.hid (show (D.push m b).fallsNow = true from hfl)
      clear hfl hp1
      go_wp2_with (first
        | (go_at_call 142; have hcf := falls_yes y1 (D.push m b) _ HP.out.2.1 HF.out; rw [HP.out.1] at hcf; refine hcf.mono ?_; rintro e w6 ⟨rfl, rfl⟩; clear hcf)
        | (go_at_call 143; have hcf := fall_is y1 (D.push m b) _ HP.out.2.1 HP.out.2.2.2.2; rw [HP.out.1] at hcf; refine hcf.mono ?_; rintro e w6 ⟨rfl, hg⟩; clear hcf))
      go_ret
      exact .inl ⟨HF.out, rfl, Goes.fold HP.out.1 HP.out.2.2.1 HP.out.2.2.2.1 hg⟩

set_option maxRecDepth 100000 in
set_option maxHeartbeats 1000000 in
theorem Write_not (y : Lay) (D : Dsk) (k : Int) (b : ByteArray) (w : World) (h : IsD w y D) (hm : D.mayW k b ≠ 0) :
    Calls Tryz.prog 118 #[.pointer (some ⟨y.p, 0, none⟩), .int .i64 k, .string b] w fun e w' => e = .returned (.int .i64 (D.mayW k b)) ∧ w' = w := by
  have hb : (D.mayW k b == 0) = false := by simpa using hm
  have hb' : (D.mayW k b != 0) = true := by simpa using hm
  have H := Lib.hid h
  clear h hm
  go_enter Tryz.func118, Tryz.ntmps118
  go_wp2_with (go_at_call 126; refine (mayW_is y D _ _ _ H.out).mono ?_; rintro e w' ⟨rfl, rfl⟩)
  go_ret
  exact ⟨rfl, rfl⟩
end Go.Proofs.YtbghglkplbnnkaaGreatDoor.Sec
-- SecAt
namespace Go.Proofs.YtbghglkplbnnkaaGreatDoor.Sec
open Go.RowKit

def zeros (n : Nat) : ByteArray := ⟨Array.replicate n 0⟩
def pad32 (s : ByteArray) : ByteArray := (s ++ zeros (32 - s.size)).extract 0 32
theorem zeros_size (n : Nat) : (zeros n).size = n := by simp [zeros, ByteArray.size]
def At (B : Nat) (w : World) (p : Nat) (D : Dsk) : Prop := ∃ y : Lay, y.p = p ∧ IsD w y D ∧ ∀ b, y.foot b → B ≤ b
section
variable {B p : Nat} {D : Dsk}
theorem mayW_nat {k : Int} {b : ByteArray} (hm : D.mayW k b = 0) : k = (k.toNat : Int) := by
  unfold Dsk.mayW Dsk.has at hm
  split at hm
  · split at hm
    · rename_i q
      simp at q
      omega
    · cases hm
  · cases hm
end

attribute [irreducible] pad32
end Go.Proofs.YtbghglkplbnnkaaGreatDoor.Sec
-- SecAlive
namespace Go.Proofs.YtbghglkplbnnkaaGreatDoor.Sec
open Go.RowKit

end Go.Proofs.YtbghglkplbnnkaaGreatDoor.Sec
-- SecOrder
namespace Go.Proofs.YtbghglkplbnnkaaGreatDoor.Sec
open Go.RowKit

theorem add_block (a : Addr) (n : Nat) : (a.add n).block = a.block := by unfold Addr.add; split <;> rfl
end Go.Proofs.YtbghglkplbnnkaaGreatDoor.Sec
-- SecClone
namespace Go.Proofs.YtbghglkplbnnkaaGreatDoor.Sec
open Go.RowKit

theorem intInfo : (Tryz.prog.info? 3).map (fun i => (i.zero, i.size, i.bytes)) = some (some (.int .i64 0), 1, 8) := by kernel_rfl

theorem owns_empty (w : World) (e : TypeId) (k : Nat) : (w.alloc (.cells #[] e)).ownsRow w.heap.size e k (.slice (some ⟨w.heap.size, 0, none⟩) 0 0) 0 [] :=
  ⟨by simp, .inr ⟨w.heap.size, 0, #[], rfl, Nat.le_refl _, heap_alloc_last _ _, Nat.le_refl _, Nat.zero_le _, by simp, by simp⟩⟩

theorem wpList_append_run {P : Program} {ops : Array Oper} {rest : List Oper} {o : Oper} {a : Act} {w w' : World} {Q : Exit → Act → World → Prop} (hgd : o.guard = none) (d s : Operand) (dT sT : TypeId)
    (ho : o.op = .call { callee := .builtin .append, args := #[d, s], argTypes := #[dT, sT] }) (vd vs v : Value) (hd : a.eval d = vd) (hs : a.eval s = vs)
    (hr : (Builtin.append_ #[dT, sT] o.type #[vd, vs]).run P w = .ok v w') (h : wpList P ops Q rest (a.put o.dst v) w') : wpList P ops Q (o :: rest) a w :=
  wpList_plain hgd fun _ hK => by
    unfold Oper.wp execOp
    simp only [ho, resolve, invoke, builtin, Sem.run_bind, Sem.run_pure, Result.andThen_ok, List.map_toArray, List.map_cons, List.map_nil, hd, hs, hr]
    exact hK _ _ h
theorem run_append_zero {P : Program} (w : World) (t ty e : TypeId) (i : TypeInfo) (ht : P.underlying t = some (.slice e)) (hi : P.info? e = some i) (hn : (match P.underlying t with | some (.int _) => true | _ => false) = false) (g : Nat) (b : Addr) (c : Nat) :
    (Builtin.append_ #[t, t] ty #[.slice (some ⟨g, 0, none⟩) 0 0, .slice (some b) 0 c]).run P w = .ok (.slice (some ⟨g, 0, none⟩) 0 0) w := by
  have hl : ∀ (x : Addr), (loadCells x 0).run P w = .ok #[] w := fun x => by simpa using run_loadCells_list (P := P) w x [] (by simp)
  simp [Builtin.append_, run_underlying ht, sizeOf, typeInfo, hi, Builtin.lenOf, Builtin.firstCells, hl, storeCells]

set_option maxRecDepth 100000 in
set_option maxHeartbeats 1000000 in
theorem clone_int (a : Option Addr) (m c : Nat) (cs : List Value) (w : World) (hm : m < 2 ^ 40) (hl : cs.length = m * 1) (hcs : ∀ j u, cs[j]? = some u → ∃ b : Addr, a = some b ∧ b.block < w.heap.size ∧ w.cell? (b.add j) = some u)
    (h1 : ∀ u ∈ cs, u.oneCell' = true) (hnil : a = none → m = 0) :
    Calls Tryz.prog 74 #[.slice a m c] w fun e w' => ∃ a' c', e = .returned (.slice a' m c') ∧ Below w.heap.size w w' ∧ m ≤ c' ∧
      ((a' = none ∧ m = 0 ∧ c' = 0) ∨ ∃ g, a' = some ⟨g, 0, none⟩ ∧ w.heap.size ≤ g ∧ w'.ownsRow w.heap.size 3 1 (.slice (some ⟨g, 0, none⟩) m c') m cs) := by
  have hq := run_eql_slice_nil (P := Tryz.prog) w 24 3 a m c Tryz.underlying24
  cases a with
  | none =>
    have h0 : m = 0 := hnil rfl
    have H0 := Lib.hid h0
    clear h0 hcs hl h1 hnil
    go_enter Tryz.func74, Tryz.ntmps74
    go_wp2
    go_ret
    exact ⟨none, 0, by rw [H0.out]; rfl, Below.refl _ _, by rw [H0.out]; exact Nat.le_refl _, .inl ⟨rfl, H0.out, rfl⟩⟩
  | some b =>
    obtain ⟨i0, hi, hz0, hz1, hz2⟩ := info_parts intInfo
    have HI := Lib.hid (And.intro hi (And.intro hz0 (And.intro hz1 hz2)))
    clear hi hz0 hz1 hz2
    rcases Nat.eq_zero_or_pos m with h0 | h0
    · subst h0
      have hcn : cs = [] := List.eq_nil_of_length_eq_zero (by simpa using hl)
      have HN := Lib.hid hcn
      clear hcn hcs hl h1 hnil
      go_enter Tryz.func74, Tryz.ntmps74
      go_wp2_with (refine wpList_append_run rfl (.tmp 5) (.tmp 6) 24 24 rfl _ _ _ rfl rfl (run_append_zero _ 24 24 3 i0 Tryz.underlying24 HI.out.1 rfl w.heap.size b c) ?_)
      go_ret
      refine ⟨_, _, rfl, (Below.refl _ _).alloc (Nat.le_refl _) _, Nat.le_refl _, .inr ⟨_, rfl, Nat.le_refl _, ?_⟩⟩
      rw [HN.out]
      exact owns_empty w _ _
    · have HD := Lib.hid (show ∀ j u, cs[j]? = some u → (w.alloc (.cells #[] 3)).cell? (b.add j) = some u from fun j u hu => by
          obtain ⟨b', hb, hlt, hc⟩ := hcs j u hu
          obtain rfl : b = b' := by simpa using hb
          rw [World.cell?_alloc_lt _ _ _ (by rw [add_block]; exact hlt)]
          exact hc)
      have HC := Lib.hid (And.intro hl (And.intro hcs h1))
      clear hl hcs h1 hnil
      go_enter Tryz.func74, Tryz.ntmps74
      go_wp2_with (first
       | (refine wpList_append_lies _ rfl (.tmp 5) (.tmp 6) 24 rfl w.heap.size 3 i0 _ 1 8 Tryz.underlying24 HI.out.1 HI.out.2.1 HI.out.2.2.1 HI.out.2.2.2 (by rfl) (by omega)
            (.slice (some ⟨w.heap.size, 0, none⟩) 0 0) 0 [] rfl (by exact owns_empty w _ _) b m c cs rfl HC.out.1 (by exact HD.out) HC.out.2.2 h0 (by unfold maxLen; omega) (by omega) (by simp) _ rfl ?_
          intro g cap w1 hown hgr hat hlt))
      go_ret
      have hg : w.heap.size ≤ g := by
        rcases hat with q | q
        · have : w.heap.size = g := by simpa [Value.ownBlock] using q
          omega
        · rw [q]; simp
      simp only [Nat.zero_add, List.nil_append] at hown
      refine ⟨_, cap, by simp, ((Below.refl _ _).alloc (Nat.le_refl _) _).grown hgr (by simp) (fun k hk => by simp [Value.ownBlock] at hk; omega), ?_, .inr ⟨g, rfl, hg, hown⟩⟩
      rcases hown.2 with ⟨q, _⟩ | ⟨g', cap', cur, hv, _, _, hle, _⟩
      · cases q
      · obtain ⟨_, rfl⟩ : g = g' ∧ cap = cap' := by simpa using hv
        exact hle
end Go.Proofs.YtbghglkplbnnkaaGreatDoor.Sec
-- SecArm
namespace Go.Proofs.YtbghglkplbnnkaaGreatDoor.Sec
open Go.RowKit

section
variable {w : World} {y : Lay} {D : Dsk}
end

end Go.Proofs.YtbghglkplbnnkaaGreatDoor.Sec
