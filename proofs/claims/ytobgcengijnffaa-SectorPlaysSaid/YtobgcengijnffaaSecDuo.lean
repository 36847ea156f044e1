/- The program's disk and the document's side by side, and a twin beside them: what a call on one leaves of all. -/
import Derived.Test.YtobgcengijnffaaSecNil
import Derived.Test.YtobgcengijnffaaSecTwins
namespace Go.Proofs.Ytobgcengijnffaa
open Go.RowKit

def Duo (B : Nat) (w : World) (p q : Nat) (D : Dsk) (R : Rsk) : Prop :=
  ∃ (y : Lay) (z : RLay), y.p = p ∧ z.p = q ∧ IsD w y D ∧ IsR w z R ∧ (∀ b, y.foot b → B ≤ b) ∧ (∀ b, z.foot b → B ≤ b) ∧ ∀ b, y.foot b → ¬ z.foot b
/-- .. and a third, a disk of the program. -/
def Trio (B : Nat) (w : World) (p q t : Nat) (D : Dsk) (R : Rsk) (T : Dsk) : Prop :=
  ∃ (y : Lay) (z : RLay) (u : Lay), y.p = p ∧ z.p = q ∧ u.p = t ∧ IsD w y D ∧ IsR w z R ∧ IsD w u T ∧ (∀ b, y.foot b → B ≤ b) ∧ (∀ b, z.foot b → B ≤ b) ∧ (∀ b, u.foot b → B ≤ b) ∧ (∀ b, y.foot b → ¬ z.foot b) ∧ (∀ b, u.foot b → ¬ z.foot b) ∧ ∀ b, y.foot b → ¬ u.foot b
section
variable {B : Nat} {w : World} {p q t : Nat} {D D' T T' : Dsk} {R R' : Rsk} {F : Nat} {args : Array Value} {r : Ending}
theorem Duo.le (h : Duo B w p q D R) : B ≤ w.heap.size := by
  obtain ⟨y, z, _, _, i, _, b, _, _⟩ := h
  have := b y.p (.inl rfl); have := i.small y.p (.inl rfl); omega
theorem Duo.alloc (h : Duo B w p q D R) (o : Obj) : Duo B (w.alloc o) p q D R := by
  obtain ⟨y, z, e1, e2, i1, i2, b1, b2, hd⟩ := h
  exact ⟨y, z, e1, e2, i1.alloc o, i2.alloc o, b1, b2, hd⟩
theorem Duo.drewN (h : Duo B w p q D R) (n : Nat) : Duo B (w.drewN n) p q D R := by
  obtain ⟨y, z, e1, e2, i1, i2, b1, b2, hd⟩ := h
  exact ⟨y, z, e1, e2, i1.drewN n, i2.drewN n, b1, b2, hd⟩
theorem Duo.drew (h : Duo B w p q D R) : Duo B w.drew p q D R := by
  obtain ⟨y, z, e1, e2, i1, i2, b1, b2, hd⟩ := h
  exact ⟨y, z, e1, e2, i1.drew, i2.drew, b1, b2, hd⟩
theorem Trio.duo (h : Trio B w p q t D R T) : Duo B w p q D R := by
  obtain ⟨y, z, u, e1, e2, e3, i1, i2, i3, b1, b2, b3, d1, d2, d3⟩ := h
  exact ⟨y, z, e1, e2, i1, i2, b1, b2, d1⟩
theorem Trio.swap (h : Trio B w p q t D R T) : Trio B w t q p T R D := by
  obtain ⟨y, z, u, e1, e2, e3, i1, i2, i3, b1, b2, b3, d1, d2, d3⟩ := h
  exact ⟨u, z, y, e3, e2, e1, i3, i2, i1, b3, b2, b1, d2, d1, fun b k l => d3 b l k⟩
theorem Trio.drewN (h : Trio B w p q t D R T) (n : Nat) : Trio B (w.drewN n) p q t D R T := by
  obtain ⟨y, z, u, e1, e2, e3, i1, i2, i3, b1, b2, b3, d1, d2, d3⟩ := h
  exact ⟨y, z, u, e1, e2, e3, i1.drewN n, i2.drewN n, i3.drewN n, b1, b2, b3, d1, d2, d3⟩
theorem Duo.goD (h : Duo B w p q D R) (c : ∀ y : Lay, y.p = p → IsD w y D → (∀ b, y.foot b → B ≤ b) → Calls Try.prog F args w fun e w' => e = r ∧ Goes y w D' w') :
    Calls Try.prog F args w fun e w' => e = r ∧ Duo B w' p q D' R ∧ Below B w w' := by
  have hB := h.le
  obtain ⟨y1, y2, e1, e2, i1, i2, b1, b2, hd⟩ := h
  refine (c y1 e1 i1 b1).mono fun e w' ⟨he, y', hp, hi, hf, ho⟩ => ⟨he, ⟨y', y2, hp.trans e1, e2, hi, i2.only ho (fun b q r => hd b r q), fun b q => ?_, b2, fun b q r => ?_⟩, ho.below b1 hB⟩
  · rcases hf b q with q | q
    · exact b1 b q
    · omega
  · rcases hf b q with q | q
    · exact hd b q r
    · have := i2.small b r; omega
theorem Duo.goR (h : Duo B w p q D R) (c : ∀ z : RLay, z.p = q → IsR w z R → (∀ b, z.foot b → B ≤ b) → Calls Try.prog F args w fun e w' => e = r ∧ GoesR z w R' w') :
    Calls Try.prog F args w fun e w' => e = r ∧ Duo B w' p q D R' ∧ Below B w w' := by
  have hB := h.le
  obtain ⟨y1, y2, e1, e2, i1, i2, b1, b2, hd⟩ := h
  refine (c y2 e2 i2 b2).mono fun e w' ⟨he, y', hp, hi, hf, ho⟩ => ⟨he, ⟨y1, y', e1, hp.trans e2, i1.only ho (fun b q r => hd b q r), hi, b1, fun b q => ?_, fun b q r => ?_⟩, ho.below b2 hB⟩
  · rcases hf b q with q | q
    · exact b2 b q
    · omega
  · rcases hf b r with r | r
    · exact hd b q r
    · have := i1.small b q; omega
theorem Trio.goT (h : Trio B w p q t D R T) (c : ∀ u : Lay, u.p = t → IsD w u T → Calls Try.prog F args w fun e w' => e = r ∧ Goes u w T' w') :
    Calls Try.prog F args w fun e w' => e = r ∧ Trio B w' p q t D R T' ∧ Below B w w' := by
  have hB := h.duo.le
  obtain ⟨y, z, u, e1, e2, e3, i1, i2, i3, b1, b2, b3, d1, d2, d3⟩ := h
  refine (c u e3 i3).mono fun e w' ⟨he, u', hp, hi, hf, ho⟩ => ⟨he, ⟨y, z, u', e1, e2, hp.trans e3, i1.only ho d3, i2.only ho (fun b q r => d2 b r q), hi, b1, b2, fun b q => ?_, d1, fun b q r => ?_, fun b q r => ?_⟩, ho.below b3 hB⟩
  · rcases hf b q with q | q
    · exact b3 b q
    · omega
  · rcases hf b q with q | q
    · exact d2 b q r
    · have := i2.small b r; omega
  · rcases hf b r with r | r
    · exact d3 b q r
    · have := i1.small b q; omega
theorem Twin_trio (h : Duo B w p q D R) (hk : D.keep.length < 2 ^ 40) :
    Calls Try.prog 25 #[.pointer (some ⟨p, 0, none⟩)] w fun e w' => ∃ t, e = .returned (.pointer (some ⟨t, 0, none⟩)) ∧ Trio B w' p q t D R D ∧ Below B w w' := by
  have hle := h.le
  obtain ⟨y, z, rfl, e2, i1, i2, b1, b2, hd⟩ := h
  refine (Twin_is y D w i1 hk).mono fun e w' ⟨u, he, hi', hf', ho⟩ => ⟨u.p, he, ⟨y, z, u, rfl, e2, rfl, i1.only ho (fun _ _ q => q), i2.only ho (fun _ _ q => q), hi', b1, b2, fun b q => Nat.le_trans hle (hf' b q), hd, fun b q r => ?_, fun b q r => ?_⟩, ho.below (fun _ q => q.elim) hle⟩
  · have := i2.small b r
    have := hf' b q
    omega
  · have := i1.small b q
    have := hf' b r
    omega
theorem Is_duo (h : Duo B w p q D R) (s : Sim D R) : Calls Try.prog 11 #[.pointer (some ⟨p, 0, none⟩), .pointer (some ⟨q, 0, none⟩)] w fun e w' => e = .returned (.bool true) ∧ ∃ m, w' = w.drewN m := by
  obtain ⟨y, z, rfl, rfl, i1, i2, _⟩ := h
  exact Is_is y D z R w i1 i2 s
/-- Ints that lie below the disks. -/
def Low (B : Nat) (w : World) (a : Option Addr) (kl : List Int) : Prop := ∀ j u, kl[j]? = some u → ∃ b : Addr, a = some b ∧ b.block < B ∧ w.cell? (b.add j) = some (.int .i64 u)
theorem Low.ints {a : Option Addr} {kl : List Int} (h : Low B w a kl) (hB : B ≤ w.heap.size) : IntsAt w a kl := fun j u hu => by
  obtain ⟨b, h1, h2, h3⟩ := h j u hu
  exact ⟨b, h1, by omega, h3⟩
theorem Low.off {a : Option Addr} {kl : List Int} (h : Low B w a kl) (b : Addr) (h0 : 0 < kl.length) (ha : a = some b) : b.block < B := by
  obtain ⟨b', h1, h2, _⟩ := h 0 _ (List.getElem?_eq_getElem h0)
  obtain rfl : b = b' := by rw [ha] at h1; simpa using h1
  exact h2
theorem Low.below {w' : World} {a : Option Addr} {kl : List Int} (h : Low B w a kl) (b : Below B w w') : Low B w' a kl := fun j u hu => by
  obtain ⟨b', h1, h2, h3⟩ := h j u hu
  exact ⟨b', h1, h2, by rw [← h3]; exact World.cell?_of_block (a := b'.add j) (by rw [add_block]; exact b.block _ h2)⟩
end
section
variable {B : Nat} {w : World} {p q t : Nat} {D T : Dsk} {R : Rsk}
theorem Write_duo (h : Duo B w p q D R) (k : Int) (b : ByteArray) (hwc : D.waits.length + 1 < 2 ^ 40) (hdd : D.deeds + 1 < 2 ^ 60) :
    Calls Try.prog 13 #[.pointer (some ⟨p, 0, none⟩), .int .i64 k, .string b] w fun e w' => e = .returned (.int .i64 (D.write k b).2) ∧ Duo B w' p q (D.write k b).1 R ∧ Below B w w' :=
  h.goD fun y hp hi _ => by subst hp; exact Write_fn y D k b w hi hwc hdd
theorem rWrite_duo (h : Duo B w p q D R) (k : Int) (b : ByteArray) (hwc : R.waits.length + 1 < 2 ^ 38) (hdd : R.deeds + 1 < 2 ^ 60) :
    Calls Try.prog 14 #[.pointer (some ⟨q, 0, none⟩), .int .i64 k, .string b] w fun e w' => e = .returned (.int .i64 (R.write k b).2) ∧ Duo B w' p q D (R.write k b).1 ∧ Below B w w' :=
  h.goR fun y hp hi _ => by subst hp; exact rWrite_fn y R k b w hi hwc hdd
theorem Barrier_duo (h : Duo B w p q D R) (hdd : D.deeds + 1 < 2 ^ 60) :
    Calls Try.prog 15 #[.pointer (some ⟨p, 0, none⟩)] w fun e w' => e = .returned (.int .i64 D.barrier.2) ∧ Duo B w' p q D.barrier.1 R ∧ Below B w w' :=
  h.goD fun y hp hi _ => by subst hp; exact Barrier_fn y D w hi hdd
theorem rBarrier_duo (h : Duo B w p q D R) (hdd : R.deeds + 1 < 2 ^ 60) :
    Calls Try.prog 16 #[.pointer (some ⟨q, 0, none⟩)] w fun e w' => e = .returned (.int .i64 R.barrier.2) ∧ Duo B w' p q D R.barrier.1 ∧ Below B w w' :=
  h.goR fun y hp hi _ => by subst hp; exact rBarrier_fn y R w hi hdd
theorem Crash_duo (h : Duo B w p q D R) (ka : Option Addr) (kl : List Int) (kc : Nat) (hk : Low B w ka kl) (hkl : kl.length < 2 ^ 39) :
    Calls Try.prog 17 #[.pointer (some ⟨p, 0, none⟩), .slice ka kl.length kc] w fun e w' => e = .returned (.int .i64 (D.crashed kl).2) ∧ Duo B w' p q (D.crashed kl).1 R ∧ Below B w w' :=
  have hB := h.le
  h.goD fun y hp hi hb => by
    subst hp
    refine Crash_fn y D w ka kl kc hi ⟨fun j u hu => ?_, fun a h0 ha => ?_⟩ (by omega)
    · obtain ⟨b, h1, _, h3⟩ := hk j u hu
      exact ⟨b, h1, h3⟩
    · have := hk.off a h0 ha
      have h1 := hb y.p (.inl rfl); have h2 := hb y.L (.inr (.inl rfl)); have h3 := hb y.N (.inr (.inr (.inl rfl)))
      exact ⟨by omega, by omega, by omega, by omega⟩
theorem rCrash_duo (h : Duo B w p q D R) (ka : Option Addr) (kl : List Int) (kc : Nat) (hk : Low B w ka kl) (hkl : kl.length < 2 ^ 39) :
    Calls Try.prog 18 #[.pointer (some ⟨q, 0, none⟩), .slice ka kl.length kc] w fun e w' => e = .returned (.int .i64 (R.crashed kl).2) ∧ Duo B w' p q D (R.crashed kl).1 ∧ Below B w w' :=
  have hB := h.le
  h.goR fun y hp hi hb => by
    subst hp
    refine rCrash_fn y R w ka kl kc hi (hk.ints hB) (fun a h0 ha => ?_) (by omega)
    have := hk.off a h0 ha
    have h1 := hb y.p (.inl rfl)
    omega
theorem Power_duo (h : Duo B w p q D R) :
    Calls Try.prog 19 #[.pointer (some ⟨p, 0, none⟩)] w fun e w' => e = .returned (.bool (!D.on)) ∧ Duo B w' p q { D with on := true } R ∧ Below B w w' :=
  h.goD fun y hp hi _ => by subst hp; exact (Power_is y D w hi).mono fun e w' ⟨he, h1, h2⟩ => ⟨he, Goes.of h1 h2⟩
theorem rPower_duo (h : Duo B w p q D R) :
    Calls Try.prog 20 #[.pointer (some ⟨q, 0, none⟩)] w fun e w' => e = .returned (.bool (!R.on)) ∧ Duo B w' p q D { R with on := true } ∧ Below B w w' :=
  h.goR fun y hp hi _ => by subst hp; exact rPower_is y R w hi
theorem Smash_duo (h : Duo B w p q D R) (k : Int) (b : ByteArray) :
    Calls Try.prog 23 #[.pointer (some ⟨p, 0, none⟩), .int .i64 k, .string b] w fun e w' => e = .returned (.bool (D.smashed k b).2) ∧ Duo B w' p q (D.smashed k b).1 R ∧ Below B w w' :=
  h.goD fun y hp hi _ => by subst hp; exact Smash_fn y D k b w hi
theorem rSmash_duo (h : Duo B w p q D R) (k : Int) (b : ByteArray) :
    Calls Try.prog 24 #[.pointer (some ⟨q, 0, none⟩), .int .i64 k, .string b] w fun e w' => e = .returned (.bool (R.smashed k b).2) ∧ Duo B w' p q D (R.smashed k b).1 ∧ Below B w w' :=
  h.goR fun y hp hi _ => by subst hp; exact rSmash_fn y R k b w hi
end
end Go.Proofs.Ytobgcengijnffaa
