import Derived.Deep.RegionHeld3
import Derived.RegionTactic
import Derived.Test.YtbghglkplbnnkaaGreatDoorYSecB
import Derived.Test.YtbghglkplbnnkaaGreatDoorYTrap
set_option linter.unusedVariables false
set_option linter.unusedSimpArgs false
-- LoopDisk
namespace Go.Proofs.YtbghglkplbnnkaaGreatDoor
open Go.RowKit Sec

def wrD (D : Dsk) (k : Int) (b : ByteArray) : Dsk × Int :=
  if D.mayW k b ≠ 0 then (D, D.mayW k b) else if D.fallsNow then ((D.push k.toNat b).crash D.keep, 3) else ((D.push k.toNat b).down.deed, 0)
def barD (D : Dsk) : Dsk × Int :=
  if D.on then (if D.fallsNow then (D.crash D.keep, 3) else (D.down.bar, 0)) else (D, 3)

theorem Write_fnK (y : Lay) (D : Dsk) (k : Int) (b : ByteArray) (w : World) (h : IsD w y D) (hwc : D.waits.length + 1 < 2 ^ 40) (hdd : D.deeds + 1 < 2 ^ 60) :
    Calls Tryz.prog 118 #[.pointer (some ⟨y.p, 0, none⟩), .int .i64 k, .string b] w fun e w' => e = .returned (.int .i64 (wrD D k b).2) ∧ Goes y w (wrD D k b).1 w' := by
  unfold wrD
  by_cases hm : D.mayW k b ≠ 0
  · rw [if_pos hm]
    refine (Write_not y D k b w h hm).mono ?_
    rintro e w' ⟨rfl, rfl⟩
    exact ⟨rfl, Goes.of h (Only.refl _ _)⟩
  · rw [if_neg hm]
    have hm0 := Decidable.not_not.1 hm
    have hk := mayW_nat hm0
    have hb : b.size = 32 := by
      unfold Dsk.mayW at hm0
      split at hm0
      · split at hm0
        · rename_i q
          simp at q
          exact q.2
        · cases hm0
      · cases hm0
    rw [hk] at hm0
    have hw := Write_ok y D k.toNat b hb w h hm0 hwc hdd
    rw [← hk] at hw
    refine hw.mono ?_
    rintro e w' (⟨q, rfl, hg⟩ | ⟨q, rfl, hg⟩)
    · rw [q]; exact ⟨rfl, hg⟩
    · rw [q]; exact ⟨rfl, hg⟩
theorem Barrier_fnK (y : Lay) (D : Dsk) (w : World) (h : IsD w y D) (hdd : D.deeds + 1 < 2 ^ 60) :
    Calls Tryz.prog 119 #[.pointer (some ⟨y.p, 0, none⟩)] w fun e w' => e = .returned (.int .i64 (barD D).2) ∧ Goes y w (barD D).1 w' := by
  unfold barD
  cases hon : D.on
  · have e : D.mayB = 3 := by simp [Dsk.mayB, hon]
    refine (Barrier_not y D w h (by rw [e]; decide)).mono ?_
    rintro e' w' ⟨rfl, rfl⟩
    rw [e]
    exact ⟨rfl, Goes.of h (Only.refl _ _)⟩
  · have e : D.mayB = 0 := by simp [Dsk.mayB, hon]
    cases hf : D.fallsNow
    · exact Barrier_ok y D w h e hf hdd
    · exact Barrier_falls y D w h e hf

def TyOk (B : Nat) (w : World) : Prop := ErrTy w ∧ 0 < B
theorem TyOk.below {B : Nat} {w w' : World} (h : TyOk B w) (b : Below B w w') : TyOk B w' := by
  refine ⟨?_, h.2⟩
  have h1 := h.1
  unfold ErrTy at *
  rw [World.cell?_of_block (w := w) (a := ⟨0, 0, none⟩) (b.block _ h.2)]
  exact h1
def KeptG (G : Nat → Prop) (w w' : World) : Prop := ∀ b, G b → w'.heap[b]? = w.heap[b]?
theorem KeptG.refl {G : Nat → Prop} {w : World} : KeptG G w w := fun _ _ => rfl
theorem KeptG.trans {G : Nat → Prop} {a b c : World} (h : KeptG G a b) (k : KeptG G b c) : KeptG G a c := fun i hi => (k i hi).trans (h i hi)
theorem KeptG.cell {G : Nat → Prop} {w w' : World} (h : KeptG G w w') (a : Addr) (ha : G a.block) : w'.cell? a = w.cell? a := World.cell?_of_block (h _ ha)
theorem KeptG.mono {G G' : Nat → Prop} {w w' : World} (h : KeptG G w w') (hG : ∀ b, G' b → G b) : KeptG G' w w' := fun b hb => h b (hG b hb)

def AtK (B : Nat) (G : Nat → Prop) (w : World) (p : Nat) (D : Dsk) : Prop :=
  TyOk B w ∧ ∃ y : Lay, y.p = p ∧ IsD w y D ∧ (∀ b, y.foot b → B ≤ b) ∧ ∀ b, G b → b < w.heap.size ∧ ¬ y.foot b
section
variable {B : Nat} {G G' : Nat → Prop} {w w' : World} {p : Nat} {D D' : Dsk} {F : Nat} {args : Array Value} {r : Ending}
theorem AtK.le (h : AtK B G w p D) : B ≤ w.heap.size := by
  obtain ⟨_, y, _, hi, hf, _⟩ := h
  have := hf y.p (.inl rfl); have := hi.small y.p (.inl rfl); omega
theorem AtK.lt (h : AtK B G w p D) (b : Nat) (hb : G b) : b < w.heap.size := by
  obtain ⟨_, y, _, hi, hf, hg⟩ := h
  exact (hg b hb).1
theorem AtK.mono (h : AtK B G w p D) (hG : ∀ b, G' b → G b) : AtK B G' w p D := by
  obtain ⟨t, y, e, hi, hf, hg⟩ := h
  exact ⟨t, y, e, hi, hf, fun b q => hg b (hG b q)⟩
theorem AtK.keep (h : AtK B G w p D) (hs : w.heap.size ≤ w'.heap.size) (hb : ∀ b, ¬ G b → b < w.heap.size → w'.heap[b]? = w.heap[b]?) (ht : TyOk B w') : AtK B G w' p D := by
  obtain ⟨t, y, e, hi, hf, hg⟩ := h
  exact ⟨ht, y, e, hi.of_blocks hs (fun b q => hb b (fun g => (hg b g).2 q) (hi.small b q)), hf, fun b q => ⟨Nat.lt_of_lt_of_le (hg b q).1 hs, (hg b q).2⟩⟩
theorem AtK.below (h : AtK B G w p D) (b : Below w.heap.size w w') : AtK B G w' p D :=
  h.keep b.size (fun k _ q => b.block k q) (h.1.below (b.mono h.le))
theorem AtK.alloc (h : AtK B G w p D) (o : Obj) : AtK B G (w.alloc o) p D := h.below ((Below.refl _ _).alloc (Nat.le_refl _) _)
theorem AtK.more (h : AtK B G w p D) (b : Below w.heap.size w w') : AtK B (fun k => G k ∨ (w.heap.size ≤ k ∧ k < w'.heap.size)) w' p D := by
  have hB := h.le
  obtain ⟨t, y, e, hi, hf, hg⟩ := h
  refine ⟨t.below (b.mono hB), y, e, hi.of_blocks b.size (fun k q => b.block k (hi.small k q)), hf, fun k q => ?_⟩
  rcases q with q | q
  · exact ⟨Nat.lt_of_lt_of_le (hg k q).1 b.size, (hg k q).2⟩
  · exact ⟨q.2, fun f => by have := hi.small k f; omega⟩
theorem AtK.set (h : AtK B G w p D) {a : Addr} (ha : G a.block) (hB : B ≤ a.block) (v : Value) : AtK B G (w.setCell a v) p D :=
  h.keep (by rw [size_setCell']; exact Nat.le_refl _) (fun b hb _ => heap_setCell_ne _ _ _ _ (fun e => hb (e ▸ ha))) (h.1.below ((Below.refl B w).setCell hB v))
theorem AtK.go (h : AtK B G w p D) (c : ∀ y : Lay, y.p = p → IsD w y D → (∀ b, y.foot b → B ≤ b) → Calls Tryz.prog F args w fun e w' => e = r ∧ Goes y w D' w') :
    Calls Tryz.prog F args w fun e w' => e = r ∧ AtK B G w' p D' ∧ Below B w w' ∧ KeptG G w w' := by
  have hB := h.le
  obtain ⟨t, y, e, hi, hf, hg⟩ := h
  refine (c y e hi hf).mono fun e' w' ⟨he, y', hp, hi', hf', ho⟩ => ?_
  have hb := ho.below hf hB
  refine ⟨he, ⟨t.below hb, y', hp.trans e, hi', fun b q => ?_, fun b q => ⟨Nat.lt_of_lt_of_le (hg b q).1 ho.size, fun f => ?_⟩⟩, hb, fun b q => ho.block b (hg b q).1 (hg b q).2⟩
  · rcases hf' b q with q | q
    · exact hf b q
    · omega
  · rcases hf' b f with f | f
    · exact (hg b q).2 f
    · have := (hg b q).1; omega
theorem Write_k (h : AtK B G w p D) (k : Int) (b : ByteArray) (hwc : D.waits.length + 1 < 2 ^ 40) (hdd : D.deeds + 1 < 2 ^ 60) :
    Calls Tryz.prog 118 #[.pointer (some ⟨p, 0, none⟩), .int .i64 k, .string b] w fun e w' => e = .returned (.int .i64 (wrD D k b).2) ∧ AtK B G w' p (wrD D k b).1 ∧ Below B w w' ∧ KeptG G w w' :=
  h.go fun y hp hi _ => by subst hp; exact Write_fnK y D k b w hi hwc hdd
theorem Barrier_k (h : AtK B G w p D) (hdd : D.deeds + 1 < 2 ^ 60) :
    Calls Tryz.prog 119 #[.pointer (some ⟨p, 0, none⟩)] w fun e w' => e = .returned (.int .i64 (barD D).2) ∧ AtK B G w' p (barD D).1 ∧ Below B w w' ∧ KeptG G w w' :=
  h.go fun y hp hi _ => by subst hp; exact Barrier_fnK y D w hi hdd
theorem Read_k (h : AtK B G w p D) (k : Int) :
    Calls Tryz.prog 107 #[.pointer (some ⟨p, 0, none⟩), .int .i64 k] w fun e w' =>
      e = .returned (.tuple #[.string (if D.mayR k = 0 then D.at_ k else ByteArray.empty), .int .i64 (D.mayR k)]) ∧ w' = w := by
  obtain ⟨_, y, rfl, hi, hft, _⟩ := h
  exact Read_is y D k w hi
theorem Len_k (h : AtK B G w p D) : Calls Tryz.prog 88 #[.pointer (some ⟨p, 0, none⟩)] w fun e w' => e = .returned (.int .i64 (D.lasts.length : Int)) ∧ w' = w := by
  obtain ⟨_, y, rfl, hi, hft, _⟩ := h
  exact Len_is y D w hi
theorem AtK.shape (h : AtK B G w p D) : D.now.length = D.lasts.length ∧ D.lasts.length ≤ 3000 ∧ (∀ b ∈ D.now, b.size = 32) ∧ (∀ b ∈ D.lasts, b.size = 32) ∧ ∀ x ∈ D.waits, x.2.size = 32 ∧ x.1 < D.lasts.length := by
  obtain ⟨_, y, _, hi, _, _⟩ := h
  exact ⟨hi.shp.len, hi.shp.most, hi.shp.blkN, hi.shp.blkL, hi.shp.blkW⟩
theorem New_k (n : Int) (w : World) (ht : TyOk B w) (hB : B ≤ w.heap.size) :
    Calls Tryz.prog 60 #[.int .i64 n] w fun e w' => ∃ p, e = .returned (.pointer (some ⟨p, 0, none⟩)) ∧ AtK B (fun b => b < w.heap.size) w' p (newD (min (max n 0) 3000).toNat) ∧ Below w.heap.size w w' ∧ w.heap.size ≤ p :=
  (New_is n w).mono fun _ _ ⟨y, he, hi, hf, ho⟩ => by
    have hb := ho.below (B := w.heap.size) (fun _ q => q.elim) (Nat.le_refl _)
    exact ⟨y.p, he, ⟨ht.below (hb.mono hB), y, rfl, hi, fun b q => Nat.le_trans hB (hf b q), fun b q => ⟨Nat.lt_of_lt_of_le q ho.size, fun f => by have := hf b f; omega⟩⟩, hb, hf y.p (.inl rfl)⟩
end
end Go.Proofs.YtbghglkplbnnkaaGreatDoor
-- LoopErr
namespace Go.Proofs.YtbghglkplbnnkaaGreatDoor
open Go.RowKit Sec

def ErrIs (w : World) (x : Int) (v : Value) : Prop := (x = 0 ∧ v = .nilIface) ∨ (x ≠ 0 ∧ ∃ (t : Int) (a : Nat) (l : List ByteArray), Chain w x t a l v)
theorem ErrIs.below {w w' : World} {x : Int} {v : Value} (h : ErrIs w x v) (b : Below w.heap.size w w') : ErrIs w' x v := by
  rcases h with h | ⟨h, t, a, l, c⟩
  · exact .inl h
  · exact .inr ⟨h, t, a, l, c.below b⟩
theorem ErrIs.iface {w : World} {x : Int} {v : Value} (h : ErrIs w x v) (hx : x ≠ 0) : ∃ tv vv, v = .iface tv vv := by
  rcases h with ⟨h, _⟩ | ⟨_, _, _, _, c⟩
  · exact absurd h hx
  · exact c.iface
theorem ErrIs.nil {w : World} {v : Value} (h : ErrIs w 0 v) : v = .nilIface := by
  rcases h with ⟨_, h⟩ | ⟨h, _⟩
  · exact h
  · exact absurd rfl h
theorem errNil (w : World) : ErrIs w 0 .nilIface := .inl ⟨rfl, rfl⟩

theorem new_err (x t : Int) (w : World) : Calls Tryz.prog 65 #[.int .i64 x, .int .i64 t] w fun e w' => ∃ v, e = .returned v ∧ Below w.heap.size w w' ∧ ErrIs w' x v := by
  by_cases hx : x = 0
  · subst hx
    exact (new_nil t w).mono fun e w' ⟨he, hw⟩ => ⟨_, he, by rw [hw]; exact Below.refl _ _, .inl ⟨rfl, rfl⟩⟩
  · exact (new_chain x t hx w).mono fun e w' ⟨he, hw⟩ => ⟨_, he, by rw [hw]; exact (Below.refl _ _).alloc (Nat.le_refl _) _, .inr ⟨hx, t, w.heap.size, [], by rw [hw]; exact chain_new x t w⟩⟩
theorem in_err (x : Int) (v : Value) (s : ByteArray) (w : World) (h : ErrIs w x v) : Calls Tryz.prog 64 #[v, .string s] w fun e w' => ∃ v', e = .returned v' ∧ Below w.heap.size w w' ∧ ErrIs w' x v' := by
  rcases h with ⟨hx, rfl⟩ | ⟨hx, t, a, l, c⟩
  · exact (in_nil s w).mono fun e w' ⟨he, hw⟩ => ⟨_, he, by rw [hw]; exact Below.refl _ _, .inl ⟨hx, rfl⟩⟩
  · obtain ⟨tv, vv, rfl⟩ := c.iface
    exact (in_some tv vv s w).mono fun e w' ⟨he, hw⟩ => ⟨_, he, by rw [hw]; exact (Below.refl _ _).alloc (Nat.le_refl _) _, .inr ⟨hx, t, a, s :: l, by rw [hw]; exact c.wrap s⟩⟩
theorem errno_err (x : Int) (v : Value) (w : World) (h : ErrIs w x v) (hg : ErrTy w) : Calls Tryz.prog 34 #[v] w fun e w' => e = .returned (.int .i64 x) ∧ Below w.heap.size w w' := by
  rcases h with ⟨rfl, rfl⟩ | ⟨hx, t, a, l, c⟩
  · exact Errno_nil w
  · exact Errno_chain x t a l v w c hg
theorem is_err (x y : Int) (hy : y ≠ 0) (v : Value) (w : World) (h : ErrIs w x v) (hg : ErrTy w) : Calls Tryz.prog 97 #[v, .int .i64 y] w fun e w' => e = .returned (.bool (x == y)) ∧ Below w.heap.size w w' := by
  rcases h with ⟨rfl, rfl⟩ | ⟨hx, t, a, l, c⟩
  · rw [show ((0 : Int) == y) = false by simpa using fun h : (0 : Int) = y => hy h.symm]
    exact Is_nil_num y hy w
  · exact Is_chain x t a l v y hy w c hg
theorem chain_off {w w' : World} {n t : Int} {a g : Nat} (hn : n ≠ 0) (hg : w.cell? ⟨g, 0, none⟩ = some (.int .i64 0)) (hb : ∀ b, b ≠ g → w'.heap[b]? = w.heap[b]?) : ∀ (l : List ByteArray) (v : Value), Chain w n t a l v → Chain w' n t a l v
  | [], _, ⟨e, c0, c1⟩ => by
    have hne : a ≠ g := fun q => by
      subst q
      rw [hg] at c0
      exact hn (by simpa using c0.symm)
    exact ⟨e, (World.cell?_of_block (a := ⟨a, 0, none⟩) (hb a hne)).trans c0, (World.cell?_of_block (a := ⟨a, 1, none⟩) (hb a hne)).trans c1⟩
  | _ :: r, _, ⟨b, u, e, c0, c1, h⟩ => by
    have hne : b ≠ g := fun q => by
      subst q
      rw [hg] at c0
      simp at c0
    exact ⟨b, u, e, (World.cell?_of_block (a := ⟨b, 0, none⟩) (hb b hne)).trans c0, (World.cell?_of_block (a := ⟨b, 1, none⟩) (hb b hne)).trans c1, chain_off hn hg hb r u h⟩
theorem ErrIs.off {w w' : World} {x : Int} {v : Value} {g : Nat} (h : ErrIs w x v) (hg : w.cell? ⟨g, 0, none⟩ = some (.int .i64 0)) (hb : ∀ b, b ≠ g → w'.heap[b]? = w.heap[b]?) : ErrIs w' x v := by
  rcases h with h | ⟨h, t, a, l, c⟩
  · exact .inl h
  · exact .inr ⟨h, t, a, l, chain_off h hg hb l v c⟩
end Go.Proofs.YtbghglkplbnnkaaGreatDoor
-- LoopObj
namespace Go.Proofs.YtbghglkplbnnkaaGreatDoor
open Go.RowKit Sec

structure LoopC (w : World) (q p : Nat) (fr n hd nx ep : Int) : Prop where
  c0 : w.cell? ⟨q, 0, none⟩ = some (.pointer (some ⟨p, 0, none⟩))
  c1 : w.cell? ⟨q, 1, none⟩ = some (.int .i64 fr)
  c2 : w.cell? ⟨q, 2, none⟩ = some (.int .i64 n)
  c3 : w.cell? ⟨q, 3, none⟩ = some (.int .i64 hd)
  c4 : w.cell? ⟨q, 4, none⟩ = some (.int .i64 nx)
  c5 : w.cell? ⟨q, 5, none⟩ = some (.int .i64 ep)
  f : ∀ j, w.frozen? ⟨q, j, none⟩ = false
section
variable {B : Nat} {G G' : Nat → Prop} {w w' : World} {q p : Nat} {D D' : Dsk} {fr n hd nx ep : Int}
theorem LoopC.of_block (h : LoopC w q p fr n hd nx ep) (hb : w'.heap[q]? = w.heap[q]?) : LoopC w' q p fr n hd nx ep :=
  have e : ∀ j, w'.cell? ⟨q, j, none⟩ = w.cell? ⟨q, j, none⟩ := fun j => World.cell?_of_block (a := ⟨q, j, none⟩) hb
  ⟨(e 0).trans h.c0, (e 1).trans h.c1, (e 2).trans h.c2, (e 3).trans h.c3, (e 4).trans h.c4, (e 5).trans h.c5, fun j => (World.frozen?_of_block (a := ⟨q, j, none⟩) hb).trans (h.f j)⟩
theorem LoopC.lt (h : LoopC w q p fr n hd nx ep) : q < w.heap.size := cell_lt h.c0
theorem LoopC.below (h : LoopC w q p fr n hd nx ep) (b : Below w.heap.size w w') : LoopC w' q p fr n hd nx ep := h.of_block (b.block q h.lt)
structure LogAt (B : Nat) (G : Nat → Prop) (w : World) (q p : Nat) (D : Dsk) (fr n hd nx ep : Int) : Prop where
  d : AtK B (fun b => G b ∨ b = q) w p D
  c : LoopC w q p fr n hd nx ep
  ge : B ≤ q
  ng : ¬ G q
theorem LogAt.below (h : LogAt B G w q p D fr n hd nx ep) (b : Below w.heap.size w w') : LogAt B G w' q p D fr n hd nx ep := ⟨h.d.below b, h.c.below b, h.ge, h.ng⟩
theorem LogAt.more (h : LogAt B G w q p D fr n hd nx ep) (b : Below w.heap.size w w') : LogAt B (fun k => G k ∨ (w.heap.size ≤ k ∧ k < w'.heap.size)) w' q p D fr n hd nx ep :=
  ⟨(h.d.more b).mono (fun k r => by rcases r with (r | r) | r; exact .inl (.inl r); exact .inr r; exact .inl (.inr r)), h.c.below b, h.ge, fun r => by
    rcases r with r | r
    · exact h.ng r
    · have := h.c.lt; omega⟩
theorem LogAt.mono (h : LogAt B G w q p D fr n hd nx ep) (hG : ∀ b, G' b → G b) : LogAt B G' w q p D fr n hd nx ep := ⟨h.d.mono (fun b r => r.imp (hG b) id), h.c, h.ge, fun r => h.ng (hG q r)⟩
theorem LogAt.drew (h : LogAt B G w q p D fr n hd nx ep) : LogAt B G w.drew q p D fr n hd nx ep := h.below (Below.refl _ _).drew
theorem LogAt.ty (h : LogAt B G w q p D fr n hd nx ep) : ErrTy w := h.d.1.1
theorem LogAt.le (h : LogAt B G w q p D fr n hd nx ep) : B ≤ w.heap.size := h.d.le
theorem LogAt.disk (h : LogAt B G w q p D fr n hd nx ep) (hd' : AtK B (fun b => G b ∨ b = q) w' p D') (k : KeptG (fun b => G b ∨ b = q) w w') : LogAt B G w' q p D' fr n hd nx ep :=
  ⟨hd', h.c.of_block (k q (.inr rfl)), h.ge, h.ng⟩

theorem none_no (h : LoopC w q p fr n hd nx ep) : Calls Tryz.prog 157 #[.pointer (some ⟨q, 0, none⟩)] w fun e w' => e = .returned (.bool false) ∧ w' = w := by
  have c0 := h.c0
  clear h
  go_enter Tryz.func157, Tryz.ntmps157
  go_wp2
  go_ret
  exact ⟨rfl, rfl⟩
theorem Next_is (h : LoopC w q p fr n hd nx ep) : Calls Tryz.prog 132 #[.pointer (some ⟨q, 0, none⟩)] w fun e w' => e = .returned (.int .i64 nx) ∧ w' = w := by
  have cc := h.c4
  have H := Lib.hid h
  clear h
  go_enter Tryz.func132, Tryz.ntmps132
  go_wp2_with (go_at_call 157; refine (none_no H.out).mono ?_; rintro e w' ⟨rfl, rfl⟩)
  go_ret
  exact ⟨rfl, rfl⟩
structure Nums (fr n hd nx ep : Int) : Prop where
  n1 : 1 ≤ n
  f0 : 0 ≤ fr
  fn : fr + n ≤ 3000
  h0 : 0 ≤ hd
  hx : hd ≤ nx
  xn : nx - hd ≤ n
  e0 : 0 ≤ ep
  ex : ep < 1000000000
  xx : nx ≤ 1000003000
theorem sectorOf_is (h : LoopC w q p fr n hd nx ep) (N : Nums fr n hd nx ep) (k : Int) (h0 : 0 ≤ k) (h1 : k < 9223372036854775807) : Calls Tryz.prog 184 #[.pointer (some ⟨q, 0, none⟩), .int .i64 k] w fun e w' => e = .returned (.int .i64 (fr + k % n)) ∧ Below w.heap.size w w' := by
  have c1 := h.c1
  have c2 := h.c2
  obtain ⟨n1, f0, fn, h0, hx, xn, e0, ex, xx⟩ := N
  have m0 : 0 ≤ k % n := Int.emod_nonneg k (by omega)
  have m1 : k % n < n := Int.emod_lt_of_pos k (by omega)
  clear h
  go_enter Tryz.func184, Tryz.ntmps184
  go_wp2
  go_region
  all_goals
    go_wp2
    go_ret
    exact ⟨rfl, (Below.refl _ _).drew⟩
theorem LoopC.cut (h : LoopC w q p fr n hd nx ep) (k : Int) : LoopC ((w.setCell ⟨q, 3, none⟩ (.int .i64 nx)).setCell ⟨q, 5, none⟩ (.int .i64 k)) q p fr n nx nx k := by
  obtain ⟨c0, c1, c2, c3, c4, c5, f⟩ := h
  have s : ∀ (u : World) (i j : Nat) (v : Value), i ≠ j → (u.setCell ⟨q, i, none⟩ v).cell? ⟨q, j, none⟩ = u.cell? ⟨q, j, none⟩ := fun u i j v hij => World.cell?_setCell_other _ _ _ _ (by intro e; exact hij (by cases e; rfl))
  refine ⟨?_, ?_, ?_, ?_, ?_, ?_, fun j => by rw [World.frozen?_setCell, World.frozen?_setCell]; exact f j⟩
  · rw [s _ 5 0 _ (by omega), s _ 3 0 _ (by omega)]; exact c0
  · rw [s _ 5 1 _ (by omega), s _ 3 1 _ (by omega)]; exact c1
  · rw [s _ 5 2 _ (by omega), s _ 3 2 _ (by omega)]; exact c2
  · rw [s _ 5 3 _ (by omega)]; exact World.cell?_setCell_same _ _ _ c3
  · rw [s _ 5 4 _ (by omega), s _ 3 4 _ (by omega)]; exact c4
  · exact World.cell?_setCell_same _ _ _ (by rw [s _ 3 5 _ (by omega)]; exact c5)
theorem set_kept {a : Addr} (v : Value) (ha : ¬ G a.block) : KeptG G w (w.setCell a v) := fun b hb => heap_setCell_ne _ _ _ _ (fun e => ha (e ▸ hb))
theorem Cut_yes (h : LogAt B G w q p D fr n hd nx ep) (k : Int) (h1 : ep < k) (h2 : k < 1000000000) : Calls Tryz.prog 134 #[.pointer (some ⟨q, 0, none⟩), .int .i64 k] w fun e w' => e = .returned (.int .i64 0) ∧ LogAt B G w' q p D fr n nx nx k ∧ Below B w w' ∧ KeptG G w w' := by
  have c3 := h.c.c3
  have c4 := h.c.c4
  have c5 := h.c.c5
  have f3 := h.c.f 3
  have f5 := h.c.f 5
  have H := Lib.hid h
  clear h
  go_enter Tryz.func134, Tryz.ntmps134
  go_wp2_with (go_at_call 157; refine (none_no H.out.c).mono ?_; rintro e w' ⟨rfl, rfl⟩)
  go_ret
  refine ⟨rfl, ⟨(H.out.d.set (a := ⟨q, 3, none⟩) (.inr rfl) H.out.ge _).set (a := ⟨q, 5, none⟩) (.inr rfl) H.out.ge _, H.out.c.cut k, H.out.ge, H.out.ng⟩, ?_, ?_⟩
  · exact ((Below.refl B _).setCell (p := ⟨q, 3, none⟩) H.out.ge _).setCell (p := ⟨q, 5, none⟩) H.out.ge _
  · exact (set_kept (a := ⟨q, 3, none⟩) _ H.out.ng).trans (set_kept (a := ⟨q, 5, none⟩) _ H.out.ng)

end
end Go.Proofs.YtbghglkplbnnkaaGreatDoor
-- LoopNew
namespace Go.Proofs.YtbghglkplbnnkaaGreatDoor
open Go.RowKit Sec
section
variable {B : Nat} {G G' : Nat → Prop} {w w' : World} {q p : Nat} {D D' : Dsk} {fr n hd nx ep : Int}
def logOk (len fr n hd nx ep : Int) : Bool := decide (1 ≤ n ∧ 0 ≤ fr ∧ fr ≤ len - n ∧ 0 ≤ hd ∧ hd ≤ nx ∧ nx - hd ≤ n ∧ 0 ≤ ep ∧ nx < 1000000000 ∧ ep < 1000000000)
theorem logOk_of {len fr n hd nx ep : Int} (h : logOk len fr n hd nx ep = true) : 1 ≤ n ∧ 0 ≤ fr ∧ fr ≤ len - n ∧ 0 ≤ hd ∧ hd ≤ nx ∧ nx - hd ≤ n ∧ 0 ≤ ep ∧ nx < 1000000000 ∧ ep < 1000000000 := of_decide_eq_true h
theorem LoopC.made (w : World) (p : Nat) (fr n hd nx ep : Int) (t : TypeId) : LoopC (w.alloc (.cells #[.pointer (some ⟨p, 0, none⟩), .int .i64 fr, .int .i64 n, .int .i64 hd, .int .i64 nx, .int .i64 ep] t)) w.heap.size p fr n hd nx ep :=
  ⟨by simp, by simp, by simp, by simp, by simp, by simp, fun j => by simp only [World.frozen?]; rw [heap_alloc_last]; simp⟩
set_option maxRecDepth 100000 in
theorem lnew_yes (h : AtK B G w p D) (fr n hd nx ep : Int) (hok : logOk D.lasts.length fr n hd nx ep = true) :
    Calls Tryz.prog 131 #[.pointer (some ⟨p, 0, none⟩), .int .i64 fr, .int .i64 n, .int .i64 hd, .int .i64 nx, .int .i64 ep] w fun e w' => ∃ q, e = .returned (.pointer (some ⟨q, 0, none⟩)) ∧ LogAt B G w' q p D fr n hd nx ep ∧ Below w.heap.size w w' := by
  obtain ⟨k1, k2, k3, k4, k5, k6, k7, k8, k9⟩ := logOk_of hok
  have hl := h.shape.2.1
  have hli : (D.lasts.length : Int) ≤ 3000 := by omega
  have H := Lib.hid h
  have HD : Hid (∀ u, u = w → Calls Tryz.prog 88 #[.pointer (some ⟨p, 0, none⟩)] u fun e w' => e = .returned (.int .i64 (D.lasts.length : Int)) ∧ w' = u) := Lib.hid (fun u hu => by subst hu; exact Len_k h)
  have hnn : (0 : Int) ≤ (D.lasts.length : Int) := by omega
  clear h hok hl
  generalize (D.lasts.length : Int) = m at *
  go_enter Tryz.func131, Tryz.ntmps131
  go_wp2_with (go_at_call 88; refine (HD.out _ rfl).mono ?_; rintro e w' ⟨rfl, rfl⟩)
  go_ret
  exact ⟨_, rfl, ⟨((H.out.more ((Below.refl _ _).alloc (Nat.le_refl _) _)).mono (fun b r => by rcases r with r | r; exact .inl r; exact .inr (by subst r; simp))), LoopC.made _ _ _ _ _ _ _ _, H.out.le, fun g => by have := H.out.lt _ g; omega⟩, (Below.refl _ _).alloc (Nat.le_refl _) _⟩
end
end Go.Proofs.YtbghglkplbnnkaaGreatDoor
