/- SectorTwins answers true: a twin has what the disk has, and goes on by itself. -/
import Derived.Test.YtobgcengijnffaaSecTwin
namespace Go.Proofs.Ytobgcengijnffaa
open Go.RowKit

/-- Two disks that share no block, all of both from block B on. -/
def Two (B : Nat) (w : World) (p1 : Nat) (D1 : Dsk) (p2 : Nat) (D2 : Dsk) : Prop :=
  ∃ y1 y2 : Lay, y1.p = p1 ∧ y2.p = p2 ∧ IsD w y1 D1 ∧ IsD w y2 D2 ∧ (∀ b, y1.foot b → B ≤ b) ∧ (∀ b, y2.foot b → B ≤ b) ∧ ∀ b, y1.foot b → ¬ y2.foot b
theorem Two.swap {B : Nat} {w : World} {p1 p2 : Nat} {D1 D2 : Dsk} (h : Two B w p1 D1 p2 D2) : Two B w p2 D2 p1 D1 := by
  obtain ⟨y1, y2, e1, e2, i1, i2, b1, b2, hd⟩ := h
  exact ⟨y2, y1, e2, e1, i2, i1, b2, b1, fun b q r => hd b r q⟩
theorem Two.fst {B : Nat} {w : World} {p1 p2 : Nat} {D1 D2 : Dsk} (h : Two B w p1 D1 p2 D2) : At B w p1 D1 := by
  obtain ⟨y1, y2, e1, e2, i1, i2, b1, b2, hd⟩ := h
  exact ⟨y1, e1, i1, b1⟩
theorem Two.snd {B : Nat} {w : World} {p1 p2 : Nat} {D1 D2 : Dsk} (h : Two B w p1 D1 p2 D2) : At B w p2 D2 := h.swap.fst
theorem Two.alloc {B : Nat} {w : World} {p1 p2 : Nat} {D1 D2 : Dsk} (h : Two B w p1 D1 p2 D2) (o : Obj) : Two B (w.alloc o) p1 D1 p2 D2 := by
  obtain ⟨y1, y2, e1, e2, i1, i2, b1, b2, hd⟩ := h
  exact ⟨y1, y2, e1, e2, i1.alloc o, i2.alloc o, b1, b2, hd⟩
/-- A call that turns the first disk alone. -/
theorem Two.go {B : Nat} {w : World} {p1 p2 : Nat} {D1 D2 D' : Dsk} (h : Two B w p1 D1 p2 D2) {F : Nat} {args : Array Value} {r : Ending}
    (c : ∀ y : Lay, y.p = p1 → IsD w y D1 → (∀ b, y.foot b → B ≤ b) → Calls Try.prog F args w fun e w' => e = r ∧ Goes y w D' w') :
    Calls Try.prog F args w fun e w' => e = r ∧ Two B w' p1 D' p2 D2 ∧ Below B w w' := by
  obtain ⟨y1, y2, e1, e2, i1, i2, b1, b2, hd⟩ := h
  have hB : B ≤ w.heap.size := by have := b1 y1.p (.inl rfl); have := i1.small y1.p (.inl rfl); omega
  refine (c y1 e1 i1 b1).mono fun e w' ⟨he, y', hp, hi, hf, ho⟩ => ⟨he, ⟨y', y2, hp.trans e1, e2, hi, i2.only ho (fun b q r => hd b r q), fun b q => ?_, b2, fun b q r => ?_⟩, ho.below b1 hB⟩
  · rcases hf b q with q | q
    · exact b1 b q
    · omega
  · rcases hf b q with q | q
    · exact hd b q r
    · have := i2.small b r; omega

theorem Twin_two {B p : Nat} {D : Dsk} (w : World) (h : At B w p D) (hk : D.keep.length < 2 ^ 40) :
    Calls Try.prog 25 #[.pointer (some ⟨p, 0, none⟩)] w fun e w' => ∃ p2, e = .returned (.pointer (some ⟨p2, 0, none⟩)) ∧ Two B w' p D p2 D ∧ Below B w w' := by
  have hle := h.le
  obtain ⟨y, rfl, hi, hft⟩ := h
  refine (Twin_is y D w hi hk).mono fun e w' ⟨y', he, hi', hf', ho⟩ => ⟨y'.p, he, ⟨y, y', rfl, rfl, hi.only ho (fun _ _ q => q), hi', hft, fun b q => Nat.le_trans hle (hf' b q), fun b q r => ?_⟩, ho.below (fun _ q => q.elim) hle⟩
  have := hi.small b q
  have := hf' b r
  omega

section
variable {B p1 p2 : Nat} {D1 D2 : Dsk} {w : World}
theorem Write_two (h : Two B w p1 D1 p2 D2) (k : Int) (b : ByteArray) (hb : b.size = 32) (hm : D1.mayW k b = 0) (hf : D1.fallsNow = false) (hwc : D1.waits.length + 1 < 2 ^ 40) (hdd : D1.deeds + 1 < 2 ^ 60) :
    Calls Try.prog 13 #[.pointer (some ⟨p1, 0, none⟩), .int .i64 k, .string b] w fun e w' => e = .returned (.int .i64 0) ∧ Two B w' p1 ((D1.push k.toNat b).down.deed) p2 D2 ∧ Below B w w' :=
  h.go fun y hp hi _ => by
    subst hp
    have hk := mayW_nat hm
    rw [hk] at hm ⊢
    refine (Write_ok y D1 k.toNat b hb w hi hm hwc hdd).mono fun e w' q => ?_
    rcases q with ⟨q, _, _⟩ | ⟨_, he, hg⟩
    · rw [hf] at q; cases q
    · exact ⟨he, hg⟩
theorem Power_two (h : Two B w p1 D1 p2 D2) : Calls Try.prog 19 #[.pointer (some ⟨p1, 0, none⟩)] w fun e w' => e = .returned (.bool (!D1.on)) ∧ Two B w' p1 { D1 with on := true } p2 D2 ∧ Below B w w' :=
  h.go fun y hp hi _ => by
    subst hp
    exact (Power_is y D1 w hi).mono fun e w' ⟨he, h1, h2⟩ => ⟨he, Goes.of h1 h2⟩
theorem Crash_nil_two (h : Two B w p1 D1 p2 D2) (hon : D1.on = true) : Calls Try.prog 17 #[.pointer (some ⟨p1, 0, none⟩), .slice none 0 0] w fun e w' => e = .returned (.int .i64 (lostN [] D1.waits.length : Int)) ∧ Two B w' p1 (D1.crash []) p2 D2 ∧ Below B w w' :=
  h.go fun y hp hi _ => by
    subst hp
    exact Crash_on y D1 w none [] 0 hi ⟨fun j z hz => by simp at hz, fun a q _ => by simp at q⟩ (by simp) hon
theorem Crash_lit_two (h : Two B w p1 D1 p2 D2) (t : TypeId) (kl : List Int) (kc : Nat) (hkl : kl.length < 2 ^ 62) (hon : D1.on = true) :
    Calls Try.prog 17 #[.pointer (some ⟨p1, 0, none⟩), .slice (some ⟨w.heap.size, 0, none⟩) kl.length kc] (w.alloc (.cells (kl.map (Value.int .i64)).toArray t)) fun e w' =>
      e = .returned (.int .i64 (lostN kl D1.waits.length : Int)) ∧ Two B w' p1 (D1.crash kl) p2 D2 ∧ Below B w w' := by
  have hle := h.fst.le
  have hsm : ∀ y1 : Lay, IsD w y1 D1 → ∀ b, y1.foot b → w.heap.size ≠ b := fun y1 i b q => by have := i.small b q; omega
  obtain ⟨y1, y2, e1, e2, i1, i2, b1, b2, hd⟩ := h
  have h' : Two B (w.alloc (.cells (kl.map (Value.int .i64)).toArray t)) p1 D1 p2 D2 := ⟨y1, y2, e1, e2, i1.alloc _, i2.alloc _, b1, b2, hd⟩
  subst e1
  have hB : B ≤ (w.alloc (.cells (kl.map (Value.int .i64)).toArray t)).heap.size := by simp; omega
  refine (Crash_on y1 D1 _ _ kl kc (i1.alloc _) ⟨fun j z hz => ⟨_, rfl, ?_⟩, fun a h0 ha => ?_⟩ hkl hon).mono fun e w' ⟨he, y', hp, hi, hf, ho⟩ => ⟨he, ⟨y', y2, hp, e2, hi, (i2.alloc _).only ho (fun b q r => hd b r q), fun b q => ?_, b2, fun b q r => ?_⟩, ((Below.refl _ _).alloc hle _).trans (ho.below b1 hB)⟩
  · rw [Addr.add_mid, Nat.zero_add, World.cell?_alloc_new]
    simp [hz]
  · obtain rfl : (⟨w.heap.size, 0, none⟩ : Addr) = a := by simpa using ha
    exact ⟨by simp, hsm y1 i1 _ (.inl rfl), hsm y1 i1 _ (.inr (.inl rfl)), hsm y1 i1 _ (.inr (.inr (.inl rfl)))⟩
  · rcases hf b q with q | q
    · exact b1 b q
    · simp at q; omega
  · rcases hf b q with q | q
    · exact hd b q r
    · have := i2.small b r; simp at q; omega
end

/-- The disks of the law. -/
def tw1 (a : ByteArray) : Dsk := ((newD 3).push 0 (pad32 a)).down.deed
def tw2 (a : ByteArray) : Dsk := (tw1 a).down.bar
def tw3 (a b : ByteArray) : Dsk := ((tw2 a).push 1 (pad32 b)).down.deed
def tw4 (a b c : ByteArray) : Dsk := ((tw3 a b).push 2 (pad32 c)).down.deed
def tw5 (a b : ByteArray) : Dsk := { (tw3 a b).crash [] with on := true }
def tw6 (a b c : ByteArray) : Dsk := { (tw4 a b c).crash [1, 1] with on := true }
theorem tw5_r (a b : ByteArray) : (tw5 a b).mayR 1 = 0 ∧ (tw5 a b).mayR 2 = 0 := ⟨by rfl, by rfl⟩
theorem tw5_a (a b : ByteArray) : (tw5 a b).at_ 1 = pad32 ⟨#[]⟩ ∧ (tw5 a b).at_ 2 = pad32 ⟨#[]⟩ := by
  rw [show pad32 ⟨#[]⟩ = zero32 by kernel_rfl]
  exact ⟨by rfl, by rfl⟩
theorem tw6_r (a b c : ByteArray) : (tw6 a b c).mayR 1 = 0 ∧ (tw6 a b c).mayR 2 = 0 := ⟨by rfl, by rfl⟩
theorem tw6_a (a b c : ByteArray) : (tw6 a b c).at_ 1 = pad32 b ∧ (tw6 a b c).at_ 2 = pad32 c := ⟨by rfl, by rfl⟩
theorem mayW_of {D : Dsk} {k : Int} {b : ByteArray} (h1 : D.on = true) (h2 : D.has k = true) (h3 : b.size = 32) : D.mayW k b = 0 := by
  unfold Dsk.mayW
  rw [if_pos h1, h2, h3]; rfl

set_option maxHeartbeats 1000000 in
theorem Twins_much (a b c : ByteArray) (n2 : Nat) (a2 : Option Addr) (c2 : Nat) (w : World) (h : 20 < n2) (m2 : n2 ≤ maxLen) :
    Calls Try.prog 6 #[.string a, .string b, .string c, .slice a2 n2 c2] w fun e w' => e = .returned (.bool true) ∧ Below w.heap.size w w' := by
  unfold maxLen at m2
  have h4 : (20 : Int) < (n2 : Int) := by omega
  go_enter Try.func6, Try.ntmps6
  go_wp2_with (go_at_call 8; refine (alive_is _).mono ?_; rintro e w1 ⟨rfl, b1⟩)
  go_ret
  exact ⟨rfl, b1⟩

set_option maxRecDepth 100000 in
set_option maxHeartbeats 2000000 in
theorem Twins_walk (a b c : ByteArray) (ha : a.size ≤ maxLen) (hb : b.size ≤ maxLen) (hc : c.size ≤ maxLen) (n2 : Nat) (a2 : Option Addr) (c2 : Nat) (w : World) (h : n2 ≤ 20) :
    Calls Try.prog 6 #[.string a, .string b, .string c, .slice a2 n2 c2] w fun e w' => e = .returned (.bool true) ∧ Below w.heap.size w w' := by
  have d4 : decide ((20 : Int) < (n2 : Int)) = false := decide_eq_false (by omega)
  have HS := Lib.hid (And.intro ha (And.intro hb hc))
  clear ha hb hc
  go_enter Try.func6, Try.ntmps6
  go_wp2_with (first
    | (go_at_call 8; refine (alive_is _).mono ?_; rintro e w1 ⟨rfl, b1⟩)
    | (go_at_call 9; refine (New_at 3 w.heap.size _ b1.size).mono ?_; rintro e w2 ⟨p, rfl, h2, b2⟩; have A2 : At w.heap.size w2 p (newD 3) := h2; have B2 := b1.trans b2; clear h2 b1 b2)
    | (go_at_call 12; refine (Full_is a HS.out.1 _).mono ?_; rintro e w' ⟨rfl, rfl⟩))
  refine (Write_at 0 (pad32 a) (pad32_size _) _ A2 (mayW_of rfl rfl (pad32_size _)) rfl (by decide) (by decide)).mono ?_
  rintro e w3 ⟨rfl, h3, b3⟩
  have A3 : At w.heap.size w3 p (tw1 a) := h3
  have B3 := B2.trans b3
  clear h3 b3 A2 B2
  go_wp2_with fail
  refine (Barrier_at _ A3 rfl rfl (by rw [show (tw1 a).deeds = 1 from rfl]; decide)).mono ?_
  rintro e w4 ⟨rfl, h4, b4⟩
  have A4 : At w.heap.size w4 p (tw2 a) := h4
  have B4 := B3.trans b4
  clear h4 b4 A3 B3
  go_wp2_with (go_at_call 12; refine (Full_is b HS.out.2.1 _).mono ?_; rintro e w' ⟨rfl, rfl⟩)
  refine (Write_at 1 (pad32 b) (pad32_size _) _ A4 (mayW_of rfl rfl (pad32_size _)) rfl (by rw [show (tw2 a).waits.length = 0 from rfl]; decide) (by rw [show (tw2 a).deeds = 2 from rfl]; decide)).mono ?_
  rintro e w5 ⟨rfl, h5, b5⟩
  have A5 : At w.heap.size w5 p (tw3 a b) := h5
  have B5 := B4.trans b5
  clear h5 b5 A4 B4
  go_wp2_with fail
  refine (Twin_two _ A5 (by rw [show (tw3 a b).keep.length = 0 from rfl]; decide)).mono ?_
  rintro e w6 ⟨p2, rfl, T6, b6⟩
  have B6 := B5.trans b6
  clear b6 A5 B5
  go_wp2_with (first
    | (go_at_call 28; refine (Waits_at _ T6.snd).mono ?_; rintro e w' ⟨rfl, rfl⟩; rw [show (tw3 a b).waits.length = 1 from rfl])
    | (go_at_call 12; refine (Full_is c HS.out.2.2 _).mono ?_; rintro e w' ⟨rfl, rfl⟩))
  refine (Write_two T6.swap 2 (pad32 c) (pad32_size _) (mayW_of rfl rfl (pad32_size _)) rfl (by rw [show (tw3 a b).waits.length = 1 from rfl]; decide) (by rw [show (tw3 a b).deeds = 3 from rfl]; decide)).mono ?_
  rintro e w7 ⟨rfl, h7, b7⟩
  have T7 : Two w.heap.size w7 p (tw3 a b) p2 (tw4 a b c) := h7.swap
  have B7 := B6.trans b7
  clear h7 b7 T6 B6
  go_wp2_with fail
  refine (Crash_nil_two T7 rfl).mono ?_
  rintro e w8 ⟨rfl, T8, b8⟩
  have B8 := B7.trans b8
  clear b8 T7 B7
  go_wp2_with fail
  refine (Crash_lit_two T8.swap 3 [1, 1] 2 (by decide) rfl).mono ?_
  rintro e w9 ⟨rfl, T9, b9⟩
  have B9 := B8.trans b9
  clear b9 T8 B8
  go_wp2_with fail
  refine (Power_two T9.swap).mono ?_
  rintro e w10 ⟨rfl, T10, b10⟩
  have B10 := B9.trans b10
  clear b10 T9 B9
  go_wp2_with fail
  refine (Power_two T10.swap).mono ?_
  rintro e w11 ⟨rfl, h11, b11⟩
  have T11 : Two w.heap.size w11 p2 (tw6 a b c) p (tw5 a b) := h11
  have B11 := B10.trans b11
  clear b11 h11 T10 B10
  have A1 := T11.snd
  have A2 := T11.fst
  have HT := Lib.hid (And.intro A1 A2)
  clear T11 A1 A2
  go_wp2_with fail
  refine (Read_at 1 _ HT.out.1).mono ?_
  rintro e w' ⟨rfl, rfl⟩
  rw [if_pos (tw5_r a b).1, (tw5_r a b).1, (tw5_a a b).1]
  go_wp2_with fail
  refine (Read_at 1 _ HT.out.2).mono ?_
  rintro e w' ⟨rfl, rfl⟩
  rw [if_pos (tw6_r a b c).1, (tw6_r a b c).1, (tw6_a a b c).1]
  go_wp2_with fail
  refine (Read_at 2 _ HT.out.2).mono ?_
  rintro e w' ⟨rfl, rfl⟩
  rw [if_pos (tw6_r a b c).2, (tw6_r a b c).2, (tw6_a a b c).2]
  go_wp2_with fail
  refine (Read_at 2 _ HT.out.1).mono ?_
  rintro e w' ⟨rfl, rfl⟩
  rw [if_pos (tw5_r a b).2, (tw5_r a b).2, (tw5_a a b).2]
  go_wp2_with fail
  refine (Full_is _ (by decide) _).mono ?_
  rintro e w' ⟨rfl, rfl⟩
  go_wp2_with fail
  refine (Full_is b HS.out.2.1 _).mono ?_
  rintro e w' ⟨rfl, rfl⟩
  go_wp2_with fail
  refine (Full_is c HS.out.2.2 _).mono ?_
  rintro e w' ⟨rfl, rfl⟩
  go_wp2_with fail
  refine (Full_is _ (by decide) _).mono ?_
  rintro e w' ⟨rfl, rfl⟩
  go_wp2_with fail
  go_ret
  exact ⟨rfl, B11⟩
end Go.Proofs.Ytobgcengijnffaa
