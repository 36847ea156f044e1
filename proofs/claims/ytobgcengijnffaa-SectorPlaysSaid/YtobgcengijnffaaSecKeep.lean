/- The two disks, and blocks that neither of them has: a call on one leaves those as they were. -/
import Derived.Test.YtobgcengijnffaaSecFresh
namespace Go.Proofs.Ytobgcengijnffaa
open Go.RowKit

theorem bel_drewN {B : Nat} {a w : World} (h : Below B a w) (n : Nat) : Below B a (w.drewN n) := ⟨h.os, h.tape, h.output, h.size, h.block⟩
def DuoK (B : Nat) (G : Nat → Prop) (w : World) (p q : Nat) (D : Dsk) (R : Rsk) : Prop :=
  ∃ (y : Lay) (z : RLay), y.p = p ∧ z.p = q ∧ IsD w y D ∧ IsR w z R ∧ (∀ b, y.foot b → B ≤ b) ∧ (∀ b, z.foot b → B ≤ b) ∧ (∀ b, y.foot b → ¬ z.foot b) ∧ ∀ b, G b → b < w.heap.size ∧ ¬ y.foot b ∧ ¬ z.foot b
def Kept (G : Nat → Prop) (w w' : World) : Prop := ∀ b, G b → w'.heap[b]? = w.heap[b]?
theorem Kept.cell {G : Nat → Prop} {w w' : World} (h : Kept G w w') (a : Addr) (ha : G a.block) : w'.cell? a = w.cell? a := World.cell?_of_block (h _ ha)
section
variable {B : Nat} {G : Nat → Prop} {w : World} {p q t : Nat} {D D' T T' : Dsk} {R R' : Rsk} {F : Nat} {args : Array Value} {r : Ending}
theorem DuoK.duo (h : DuoK B G w p q D R) : Duo B w p q D R := by
  obtain ⟨y, z, e1, e2, i1, i2, b1, b2, hd, _⟩ := h
  exact ⟨y, z, e1, e2, i1, i2, b1, b2, hd⟩
theorem DuoK.le (h : DuoK B G w p q D R) : B ≤ w.heap.size := h.duo.le
theorem DuoK.lt (h : DuoK B G w p q D R) (b : Nat) (hb : G b) : b < w.heap.size := by
  obtain ⟨y, z, e1, e2, i1, i2, b1, b2, hd, hg⟩ := h
  exact (hg b hb).1
theorem DuoK.drew (h : DuoK B G w p q D R) : DuoK B G w.drew p q D R := by
  obtain ⟨y, z, e1, e2, i1, i2, b1, b2, hd, hg⟩ := h
  exact ⟨y, z, e1, e2, i1.drew, i2.drew, b1, b2, hd, hg⟩
/-- More blocks, and fresh ones with them. -/
theorem Duo.keep (h : Duo B w p q D R) {w' : World} (hs : w.heap.size ≤ w'.heap.size) (hb : ∀ b, b < w.heap.size → w'.heap[b]? = w.heap[b]?) (hG : ∀ b, G b → w.heap.size ≤ b ∧ b < w'.heap.size) : DuoK B G w' p q D R := by
  obtain ⟨y, z, e1, e2, i1, i2, b1, b2, hd⟩ := h
  refine ⟨y, z, e1, e2, i1.of_blocks hs (fun b q => hb b (i1.small b q)), i2.of_blocks hs (fun b q => hb b (i2.small b q)), b1, b2, hd, fun b g => ⟨(hG b g).2, fun q => ?_, fun q => ?_⟩⟩
  · have := i1.small b q; have := hG b g; omega
  · have := i2.small b q; have := hG b g; omega
theorem Duo.keep_alloc (h : Duo B w p q D R) (o : Obj) : DuoK B (· = w.heap.size) (w.alloc o) p q D R :=
  h.keep (by simp) (fun b hb => Below.heap_alloc _ _ _ hb) fun b hb => by rw [hb]; simp
theorem Duo.keep_copy (h : Duo B w p q D R) (o : Obj) (j : Nat) (v : Value) : DuoK B (· = w.heap.size) ((w.alloc o).setCell ⟨w.heap.size, j, none⟩ v) p q D R :=
  h.keep (by rw [size_setCell']; simp) (fun b hb => by rw [heap_setCell_ne _ _ _ _ (by show b ≠ w.heap.size; omega), Below.heap_alloc _ _ _ hb]) fun b hb => by rw [hb, size_setCell']; simp
theorem DuoK.goD (h : DuoK B G w p q D R) (c : ∀ y : Lay, y.p = p → IsD w y D → (∀ b, y.foot b → B ≤ b) → (∀ b, G b → ¬ y.foot b) → Calls Try.prog F args w fun e w' => e = r ∧ Goes y w D' w') :
    Calls Try.prog F args w fun e w' => e = r ∧ DuoK B G w' p q D' R ∧ Below B w w' ∧ Kept G w w' := by
  have hB := h.le
  obtain ⟨y1, y2, e1, e2, i1, i2, b1, b2, hd, hg⟩ := h
  refine (c y1 e1 i1 b1 (fun b g => (hg b g).2.1)).mono fun e w' ⟨he, y', hp, hi, hf, ho⟩ => ⟨he, ⟨y', y2, hp.trans e1, e2, hi, i2.only ho (fun b q r => hd b r q), fun b q => ?_, b2, fun b q r => ?_, fun b g => ⟨Nat.lt_of_lt_of_le (hg b g).1 ho.size, fun q => ?_, (hg b g).2.2⟩⟩, ho.below b1 hB, fun b g => ho.block b (hg b g).1 (hg b g).2.1⟩
  · rcases hf b q with q | q
    · exact b1 b q
    · omega
  · rcases hf b q with q | q
    · exact hd b q r
    · have := i2.small b r; omega
  · rcases hf b q with q | q
    · exact (hg b g).2.1 q
    · have := (hg b g).1; omega
theorem DuoK.goR (h : DuoK B G w p q D R) (c : ∀ z : RLay, z.p = q → IsR w z R → (∀ b, z.foot b → B ≤ b) → (∀ b, G b → ¬ z.foot b) → Calls Try.prog F args w fun e w' => e = r ∧ GoesR z w R' w') :
    Calls Try.prog F args w fun e w' => e = r ∧ DuoK B G w' p q D R' ∧ Below B w w' ∧ Kept G w w' := by
  have hB := h.le
  obtain ⟨y1, y2, e1, e2, i1, i2, b1, b2, hd, hg⟩ := h
  refine (c y2 e2 i2 b2 (fun b g => (hg b g).2.2)).mono fun e w' ⟨he, y', hp, hi, hf, ho⟩ => ⟨he, ⟨y1, y', e1, hp.trans e2, i1.only ho (fun b q r => hd b q r), hi, b1, fun b q => ?_, fun b q r => ?_, fun b g => ⟨Nat.lt_of_lt_of_le (hg b g).1 ho.size, (hg b g).2.1, fun q => ?_⟩⟩, ho.below b2 hB, fun b g => ho.block b (hg b g).1 (hg b g).2.2⟩
  · rcases hf b q with q | q
    · exact b2 b q
    · omega
  · rcases hf b r with r | r
    · exact hd b q r
    · have := i1.small b q; omega
  · rcases hf b q with q | q
    · exact (hg b g).2.2 q
    · have := (hg b g).1; omega
end
theorem Twin_all {B : Nat} {w : World} {p q : Nat} {D : Dsk} {R : Rsk} (h : Duo B w p q D R) (hk : D.keep.length < 2 ^ 40) :
    Calls Try.prog 25 #[.pointer (some ⟨p, 0, none⟩)] w fun e w' => ∃ t, e = .returned (.pointer (some ⟨t, 0, none⟩)) ∧ Trio B w' p q t D R D ∧ Below B w w' ∧ ∀ b, b < w.heap.size → w'.heap[b]? = w.heap[b]? := by
  have hle := h.le
  obtain ⟨y, z, rfl, e2, i1, i2, b1, b2, hd⟩ := h
  refine (Twin_is y D w i1 hk).mono fun e w' ⟨u, he, hi', hf', ho⟩ => ⟨u.p, he, ⟨y, z, u, rfl, e2, rfl, i1.only ho (fun _ _ q => q), i2.only ho (fun _ _ q => q), hi', b1, b2, fun b q => Nat.le_trans hle (hf' b q), hd, fun b q r => ?_, fun b q r => ?_⟩, ho.below (fun _ q => q.elim) hle, fun b hb => ho.block b hb (fun q => q)⟩
  · have := i2.small b r
    have := hf' b q
    omega
  · have := i1.small b q
    have := hf' b r
    omega
section
variable {B : Nat} {G : Nat → Prop} {w : World} {p q t : Nat} {D T : Dsk} {R : Rsk}
theorem Write_keep (h : DuoK B G w p q D R) (k : Int) (b : ByteArray) (hwc : D.waits.length + 1 < 2 ^ 40) (hdd : D.deeds + 1 < 2 ^ 60) :
    Calls Try.prog 13 #[.pointer (some ⟨p, 0, none⟩), .int .i64 k, .string b] w fun e w' => e = .returned (.int .i64 (D.write k b).2) ∧ DuoK B G w' p q (D.write k b).1 R ∧ Below B w w' ∧ Kept G w w' :=
  h.goD fun y hp hi _ _ => by subst hp; exact Write_fn y D k b w hi hwc hdd
theorem rWrite_keep (h : DuoK B G w p q D R) (k : Int) (b : ByteArray) (hwc : R.waits.length + 1 < 2 ^ 38) (hdd : R.deeds + 1 < 2 ^ 60) :
    Calls Try.prog 14 #[.pointer (some ⟨q, 0, none⟩), .int .i64 k, .string b] w fun e w' => e = .returned (.int .i64 (R.write k b).2) ∧ DuoK B G w' p q D (R.write k b).1 ∧ Below B w w' ∧ Kept G w w' :=
  h.goR fun y hp hi _ _ => by subst hp; exact rWrite_fn y R k b w hi hwc hdd
theorem Crash_keep (h : DuoK B G w p q D R) (ka : Option Addr) (kl : List Int) (kc : Nat) (hk : Low B w ka kl) (hkl : kl.length < 2 ^ 39) :
    Calls Try.prog 17 #[.pointer (some ⟨p, 0, none⟩), .slice ka kl.length kc] w fun e w' => e = .returned (.int .i64 (D.crashed kl).2) ∧ DuoK B G w' p q (D.crashed kl).1 R ∧ Below B w w' ∧ Kept G w w' :=
  have hB := h.le
  h.goD fun y hp hi hb _ => by
    subst hp
    refine Crash_fn y D w ka kl kc hi ⟨fun j u hu => ?_, fun a h0 ha => ?_⟩ (by omega)
    · obtain ⟨b, h1, _, h3⟩ := hk j u hu
      exact ⟨b, h1, h3⟩
    · have := hk.off a h0 ha
      have h1 := hb y.p (.inl rfl); have h2 := hb y.L (.inr (.inl rfl)); have h3 := hb y.N (.inr (.inr (.inl rfl)))
      exact ⟨by omega, by omega, by omega, by omega⟩
theorem rCrash_keep (h : DuoK B G w p q D R) (ka : Option Addr) (kl : List Int) (kc : Nat) (hk : Low B w ka kl) (hkl : kl.length < 2 ^ 39) :
    Calls Try.prog 18 #[.pointer (some ⟨q, 0, none⟩), .slice ka kl.length kc] w fun e w' => e = .returned (.int .i64 (R.crashed kl).2) ∧ DuoK B G w' p q D (R.crashed kl).1 ∧ Below B w w' ∧ Kept G w w' :=
  have hB := h.le
  h.goR fun y hp hi hb _ => by
    subst hp
    refine rCrash_fn y R w ka kl kc hi (hk.ints hB) (fun a h0 ha => ?_) (by omega)
    have := hk.off a h0 ha
    have h1 := hb y.p (.inl rfl)
    omega
theorem Smash_keep (h : DuoK B G w p q D R) (k : Int) (b : ByteArray) :
    Calls Try.prog 23 #[.pointer (some ⟨p, 0, none⟩), .int .i64 k, .string b] w fun e w' => e = .returned (.bool (D.smashed k b).2) ∧ DuoK B G w' p q (D.smashed k b).1 R ∧ Below B w w' ∧ Kept G w w' :=
  h.goD fun y hp hi _ _ => by subst hp; exact Smash_fn y D k b w hi
theorem rSmash_keep (h : DuoK B G w p q D R) (k : Int) (b : ByteArray) :
    Calls Try.prog 24 #[.pointer (some ⟨q, 0, none⟩), .int .i64 k, .string b] w fun e w' => e = .returned (.bool (R.smashed k b).2) ∧ DuoK B G w' p q D (R.smashed k b).1 ∧ Below B w w' ∧ Kept G w w' :=
  h.goR fun y hp hi _ _ => by subst hp; exact rSmash_fn y R k b w hi
theorem Arm_keep (h : DuoK B G w p q D R) (n : Int) (hn : n < 2 ^ 63) (ka : Option Addr) (kl : List Int) (kc : Nat) (hk : IntsAt w ka kl) (hoff : ∀ b : Addr, 0 < kl.length → ka = some b → G b.block) (hkl : kl.length < 2 ^ 39) :
    Calls Try.prog 21 #[.pointer (some ⟨p, 0, none⟩), .int .i64 n, .slice ka kl.length kc] w fun e w' => e = .returned (.tuple #[]) ∧ DuoK B G w' p q (D.arming n kl) R ∧ Below B w w' ∧ Kept G w w' :=
  h.goD fun y hp hi _ hg => by
    subst hp
    unfold Dsk.arming
    by_cases h0 : 0 ≤ n
    · rw [if_pos h0]
      obtain ⟨m, rfl⟩ := Int.eq_ofNat_of_zero_le h0
      exact Arm_is y D w m (by omega) ka kl kc hi hk (fun b h0 hb e => hg _ (hoff b h0 hb) (.inl e)) (by omega)
    · rw [if_neg h0]
      exact Arm_neg y D w n (by omega) _ hi
theorem rArm_keep (h : DuoK B G w p q D R) (n : Int) (ka : Option Addr) (kl : List Int) (kc : Nat) (hk : Low B w ka kl) (hkl : kl.length < 2 ^ 39) :
    Calls Try.prog 22 #[.pointer (some ⟨q, 0, none⟩), .int .i64 n, .slice ka kl.length kc] w fun e w' => e = .returned (.tuple #[]) ∧ DuoK B G w' p q D (R.arming n kl) ∧ Below B w w' ∧ Kept G w w' :=
  have hB := h.le
  h.goR fun y hp hi _ _ => by subst hp; exact rArm_is y R w n ka kl kc hi (hk.ints hB) hkl
end
end Go.Proofs.Ytobgcengijnffaa
