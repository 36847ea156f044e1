/- The law's helper Full, and a disk's calls where all that the disk has lies from block B on. -/
import Derived.Test.YtbcdmcafobjpcaaGreatDoorSecWrite
namespace Go.Proofs.YtbcdmcafobjpcaaGreatDoor.Sec
open Go.RowKit

/-- A text as a whole sector. -/
def zeros (n : Nat) : ByteArray := ⟨Array.replicate n 0⟩
def pad32 (s : ByteArray) : ByteArray := (s ++ zeros (32 - s.size)).extract 0 32
theorem zeros_size (n : Nat) : (zeros n).size = n := by simp [zeros, ByteArray.size]
theorem pad32_size (s : ByteArray) : (pad32 s).size = 32 := by
  simp only [pad32, ByteArray.size_extract, ByteArray.size_append, zeros_size]
  omega
theorem pad32_step (s : ByteArray) (h : s.size < 32) : pad32 (s ++ ⟨#[0]⟩) = pad32 s := by
  have e : (s ++ ⟨#[0]⟩ : ByteArray) ++ zeros (32 - (s ++ ⟨#[0]⟩ : ByteArray).size) = s ++ zeros (32 - s.size) := by
    have h1 : (s ++ ⟨#[0]⟩ : ByteArray).size = s.size + 1 := by rw [ByteArray.size_append]; rfl
    rw [h1, ByteArray.append_assoc]
    congr 1
    have h2 : 32 - s.size = (32 - (s.size + 1)) + 1 := by omega
    rw [h2]
    ext1
    simp [zeros, Array.replicate_succ']
  rw [pad32, e, pad32]
theorem pad32_done (s : ByteArray) (h : 32 ≤ s.size) : pad32 s = s.extract 0 32 := by
  have h0 : 32 - s.size = 0 := by omega
  rw [pad32, h0, show zeros 0 = ByteArray.empty from rfl, ByteArray.append_empty]

/-- The disk D lies at p, all of it from block B on. -/
def At (B : Nat) (w : World) (p : Nat) (D : Dsk) : Prop := ∃ y : Lay, y.p = p ∧ IsD w y D ∧ ∀ b, y.foot b → B ≤ b
theorem At.of {B : Nat} {w w' : World} {y : Lay} {D D' : Dsk} (h : IsD w y D) (hf : ∀ b, y.foot b → B ≤ b) (g : Goes y w D' w') : At B w' y.p D' ∧ Below B w w' := by
  have hB : B ≤ w.heap.size := by have := hf y.p (.inl rfl); have := h.small y.p (.inl rfl); omega
  obtain ⟨y', hp, hi, hf', ho⟩ := g
  exact ⟨⟨y', hp, hi, fun b q => by rcases hf' b q with q | q; exact hf b q; omega⟩, ho.below hf hB⟩
theorem At.keep {B : Nat} {w w' : World} {p : Nat} {D : Dsk} (h : At B w p D) (hs : w.heap.size ≤ w'.heap.size) (hb : ∀ b, B ≤ b → b < w.heap.size → w'.heap[b]? = w.heap[b]?) : At B w' p D := by
  obtain ⟨y, hp, hi, hf⟩ := h
  exact ⟨y, hp, hi.of_blocks hs (fun b q => hb b (hf b q) (hi.small b q)), hf⟩
theorem At.alloc {B : Nat} {w : World} {p : Nat} {D : Dsk} (h : At B w p D) (o : Obj) : At B (w.alloc o) p D := h.keep (by simp) fun b _ q => Below.heap_alloc _ _ _ q
theorem At.le {B : Nat} {w : World} {p : Nat} {D : Dsk} (h : At B w p D) : B ≤ w.heap.size := by
  obtain ⟨y, _, hi, hf⟩ := h
  have := hf y.p (.inl rfl); have := hi.small y.p (.inl rfl); omega

theorem New_at (n : Int) (B : Nat) (w : World) (hB : B ≤ w.heap.size) :
    Calls Tryz.prog 5 #[.int .i64 n] w fun e w' => ∃ p, e = .returned (.pointer (some ⟨p, 0, none⟩)) ∧ At B w' p (newD (min (max n 0) 3000).toNat) ∧ Below B w w' :=
  (New_is n w).mono fun _ _ ⟨y, he, hi, hf, ho⟩ => ⟨y.p, he, ⟨y, rfl, hi, fun b q => Nat.le_trans hB (hf b q)⟩, ho.below (fun _ q => q.elim) hB⟩

section
variable {B p : Nat} {D : Dsk}
theorem mayW_nat {k : Int} {b : ByteArray} (hm : D.mayW k b = 0) : k = (k.toNat : Int) := by
  unfold Dsk.mayW Dsk.has at hm
  split at hm
  · split at hm
    · rename_i q
      simp at q
      omega
    · cases hm
  · cases hm
theorem Write_at (k : Int) (b : ByteArray) (hb : b.size = 32) (w : World) (h : At B w p D) (hm : D.mayW k b = 0) (hf : D.fallsNow = false) (hwc : D.waits.length + 1 < 2 ^ 40) (hdd : D.deeds + 1 < 2 ^ 60) :
    Calls Tryz.prog 80 #[.pointer (some ⟨p, 0, none⟩), .int .i64 k, .string b] w fun e w' => e = .returned (.int .i64 0) ∧ At B w' p ((D.push k.toNat b).down.deed) ∧ Below B w w' := by
  obtain ⟨y, rfl, hi, hft⟩ := h
  have hk := mayW_nat hm
  rw [hk] at hm ⊢
  refine (Write_ok y D k.toNat b hb w hi hm hwc hdd).mono fun e w' q => ?_
  rcases q with ⟨q, _, _⟩ | ⟨_, he, hg⟩
  · rw [hf] at q; cases q
  · exact ⟨he, At.of hi hft hg⟩
theorem Write_fall_at (k : Int) (b : ByteArray) (hb : b.size = 32) (w : World) (h : At B w p D) (hm : D.mayW k b = 0) (hf : D.fallsNow = true) (hwc : D.waits.length + 1 < 2 ^ 40) (hdd : D.deeds + 1 < 2 ^ 60) :
    Calls Tryz.prog 80 #[.pointer (some ⟨p, 0, none⟩), .int .i64 k, .string b] w fun e w' => e = .returned (.int .i64 3) ∧ At B w' p ((D.push k.toNat b).crash D.keep) ∧ Below B w w' := by
  obtain ⟨y, rfl, hi, hft⟩ := h
  have hk := mayW_nat hm
  rw [hk] at hm ⊢
  refine (Write_ok y D k.toNat b hb w hi hm hwc hdd).mono fun e w' q => ?_
  rcases q with ⟨_, he, hg⟩ | ⟨q, _, _⟩
  · exact ⟨he, At.of hi hft hg⟩
  · rw [hf] at q; cases q
theorem Write_not_at (k : Int) (b : ByteArray) (w : World) (h : At B w p D) (hm : D.mayW k b ≠ 0) :
    Calls Tryz.prog 80 #[.pointer (some ⟨p, 0, none⟩), .int .i64 k, .string b] w fun e w' => e = .returned (.int .i64 (D.mayW k b)) ∧ w' = w := by
  obtain ⟨y, rfl, hi, hft⟩ := h
  exact Write_not y D k b w hi hm
theorem Read_at (k : Int) (w : World) (h : At B w p D) :
    Calls Tryz.prog 83 #[.pointer (some ⟨p, 0, none⟩), .int .i64 k] w fun e w' =>
      e = .returned (.tuple #[.string (if D.mayR k = 0 then D.at_ k else ByteArray.empty), .int .i64 (D.mayR k)]) ∧ w' = w := by
  obtain ⟨y, rfl, hi, hft⟩ := h
  exact Read_is y D k w hi
theorem On_at (w : World) (h : At B w p D) : Calls Tryz.prog 10 #[.pointer (some ⟨p, 0, none⟩)] w fun e w' => e = .returned (.bool D.on) ∧ w' = w := by
  obtain ⟨y, rfl, hi, hft⟩ := h
  exact On_is y D w hi
theorem Len_at (w : World) (h : At B w p D) : Calls Tryz.prog 23 #[.pointer (some ⟨p, 0, none⟩)] w fun e w' => e = .returned (.int .i64 (D.lasts.length : Int)) ∧ w' = w := by
  obtain ⟨y, rfl, hi, hft⟩ := h
  exact Len_is y D w hi
theorem Power_at (w : World) (h : At B w p D) : Calls Tryz.prog 12 #[.pointer (some ⟨p, 0, none⟩)] w fun e w' => e = .returned (.bool (!D.on)) ∧ At B w' p { D with on := true } ∧ Below B w w' := by
  obtain ⟨y, rfl, hi, hft⟩ := h
  exact (Power_is y D w hi).mono fun e w' ⟨he, h1, h2⟩ => ⟨he, At.of hi hft (Goes.of h1 h2)⟩
theorem Barrier_at (w : World) (h : At B w p D) (hm : D.mayB = 0) (hf : D.fallsNow = false) (hdd : D.deeds + 1 < 2 ^ 60) :
    Calls Tryz.prog 82 #[.pointer (some ⟨p, 0, none⟩)] w fun e w' => e = .returned (.int .i64 0) ∧ At B w' p D.down.bar ∧ Below B w w' := by
  obtain ⟨y, rfl, hi, hft⟩ := h
  exact (Barrier_ok y D w hi hm hf hdd).mono fun e w' ⟨he, hg⟩ => ⟨he, At.of hi hft hg⟩
/-- What is kept lies below B, or in a block of its own. -/
theorem Crash_at (w : World) (ka : Option Addr) (kl : List Int) (kc : Nat) (h : At B w p D) (hk : ∀ j z, kl[j]? = some z → ∃ a : Addr, ka = some a ∧ w.cell? (a.add j) = some (.int .i64 z))
    (hb : ∀ a : Addr, 0 < kl.length → ka = some a → a.block < B) (hkl : kl.length < 2 ^ 62) (hon : D.on = true) :
    Calls Tryz.prog 16 #[.pointer (some ⟨p, 0, none⟩), .slice ka kl.length kc] w fun e w' => e = .returned (.int .i64 (lostN kl D.waits.length : Int)) ∧ At B w' p (D.crash kl) ∧ Below B w w' := by
  have hle := h.le
  obtain ⟨y, rfl, hi, hft⟩ := h
  refine (Crash_on y D w ka kl kc hi ⟨hk, fun a h0 ha => ?_⟩ hkl hon).mono fun e w' ⟨he, hg⟩ => ⟨he, At.of hi hft hg⟩
  have hlt := hb a h0 ha
  have h1 := hft y.p (.inl rfl)
  have h2 := hft y.L (.inr (.inl rfl))
  have h3 := hft y.N (.inr (.inr (.inl rfl)))
  exact ⟨by omega, by omega, by omega, by omega⟩
theorem Crash_lit (w : World) (t : TypeId) (kl : List Int) (kc : Nat) (h : At B w p D) (hkl : kl.length < 2 ^ 62) (hon : D.on = true) :
    Calls Tryz.prog 16 #[.pointer (some ⟨p, 0, none⟩), .slice (some ⟨w.heap.size, 0, none⟩) kl.length kc] (w.alloc (.cells (kl.map (Value.int .i64)).toArray t)) fun e w' =>
      e = .returned (.int .i64 (lostN kl D.waits.length : Int)) ∧ At B w' p (D.crash kl) ∧ Below B w w' := by
  have hle := h.le
  obtain ⟨y, rfl, hi, hft⟩ := h
  refine (Crash_on y D _ _ kl kc (hi.alloc _) ⟨fun j z hz => ⟨_, rfl, ?_⟩, fun a h0 ha => ?_⟩ hkl hon).mono fun e w' ⟨he, hg⟩ => ?_
  · rw [Addr.add_mid, Nat.zero_add, World.cell?_alloc_new]
    simp [hz]
  · obtain rfl : (⟨w.heap.size, 0, none⟩ : Addr) = a := by simpa using ha
    have h1 := hi.small y.p (.inl rfl)
    have h2 := hi.small y.L (.inr (.inl rfl))
    have h3 := hi.small y.N (.inr (.inr (.inl rfl)))
    refine ⟨by simp, ?_, ?_, ?_⟩ <;> show w.heap.size ≠ _ <;> omega
  · have := At.of (hi.alloc _) hft hg
    exact ⟨he, this.1, ((Below.refl _ _).alloc hle _).trans this.2⟩
theorem Crash_off_at (w : World) (v : Value) (h : At B w p D) (hon : D.on = false) :
    Calls Tryz.prog 16 #[.pointer (some ⟨p, 0, none⟩), v] w fun e w' => e = .returned (.int .i64 0) ∧ At B w' p D.disarm ∧ Below B w w' := by
  obtain ⟨y, rfl, hi, hft⟩ := h
  exact (Crash_off y D w v hi hon).mono fun e w' ⟨he, hg⟩ => ⟨he, At.of hi hft hg⟩
end

/-- The disks of the law's helper alive. -/
def txt (c : UInt8) : ByteArray := ⟨#[c]⟩
def al0 : Dsk := newD 4
def al1 : Dsk := (al0.push 0 (pad32 (txt 97))).down.deed
def al2 : Dsk := (al1.push 1 (pad32 (txt 98))).down.deed
def al3 : Dsk := al2.crash [0, 1]
def al4 : Dsk := { al3 with on := true }

theorem al_m0 : al0.mayW 0 (pad32 (txt 97)) = 0 := by kernel_rfl
theorem al_m1 : al1.mayW 1 (pad32 (txt 98)) = 0 := by kernel_rfl
theorem al_f0 : al0.fallsNow = false := by kernel_rfl
theorem al_f1 : al1.fallsNow = false := by kernel_rfl
theorem al_w0 : al0.waits.length + 1 < 2 ^ 40 := of_decide_eq_true (by kernel_rfl)
theorem al_w1 : al1.waits.length + 1 < 2 ^ 40 := of_decide_eq_true (by kernel_rfl)
theorem al_d0 : al0.deeds + 1 < 2 ^ 60 := of_decide_eq_true (by kernel_rfl)
theorem al_d1 : al1.deeds + 1 < 2 ^ 60 := of_decide_eq_true (by kernel_rfl)
theorem al_o2 : al2.on = true := by kernel_rfl
theorem al_o3 : al3.on = false := by kernel_rfl
theorem al_l2 : lostN [0, 1] al2.waits.length = 1 := by kernel_rfl
theorem al_r0 : al4.mayR 0 = 0 := by kernel_rfl
theorem al_r1 : al4.mayR 1 = 0 := by kernel_rfl
theorem al_a0 : al4.at_ 0 = pad32 ⟨#[]⟩ := by kernel_rfl
theorem al_a1 : al4.at_ 1 = pad32 ⟨#[98]⟩ := by kernel_rfl
theorem al_q4 : al4.deeds = 2 := by kernel_rfl
theorem al_n4 : al4.lasts.length = 4 := by kernel_rfl

attribute [irreducible] pad32
end Go.Proofs.YtbcdmcafobjpcaaGreatDoor.Sec
