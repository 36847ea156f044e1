/- The disk in memory, and blocks that it hasn't got: each deed as a function on data. Conditions: the variable errors.errorType holds the type error, below block B. -/
import Derived.Test.YtbcdmcafobjpcaaGreatDoorSecAt
import Derived.Test.YtbcdmcafobjpcaaGreatDoorTrapIs
namespace Go.Proofs.YtbcdmcafobjpcaaGreatDoor
open Go.RowKit Sec

def wrD (D : Dsk) (k : Int) (b : ByteArray) : Dsk × Int :=
  if D.mayW k b ≠ 0 then (D, D.mayW k b) else if D.fallsNow then ((D.push k.toNat b).crash D.keep, 3) else ((D.push k.toNat b).down.deed, 0)
def barD (D : Dsk) : Dsk × Int :=
  if D.on then (if D.fallsNow then (D.crash D.keep, 3) else (D.down.bar, 0)) else (D, 3)

theorem Write_fnK (y : Lay) (D : Dsk) (k : Int) (b : ByteArray) (w : World) (h : IsD w y D) (hwc : D.waits.length + 1 < 2 ^ 40) (hdd : D.deeds + 1 < 2 ^ 60) :
    Calls Tryz.prog 80 #[.pointer (some ⟨y.p, 0, none⟩), .int .i64 k, .string b] w fun e w' => e = .returned (.int .i64 (wrD D k b).2) ∧ Goes y w (wrD D k b).1 w' := by
  unfold wrD
  by_cases hm : D.mayW k b ≠ 0
  · rw [if_pos hm]
    refine (Write_not y D k b w h hm).mono ?_
    rintro e w' ⟨rfl, rfl⟩
    exact ⟨rfl, Goes.of h (Only.refl _ _)⟩
  · rw [if_neg hm]
    have hm0 := Decidable.not_not.1 hm
    have hk := mayW_nat hm0
    have hb : b.size = 32 := by
      unfold Dsk.mayW at hm0
      split at hm0
      · split at hm0
        · rename_i q
          simp at q
          exact q.2
        · cases hm0
      · cases hm0
    rw [hk] at hm0
    have hw := Write_ok y D k.toNat b hb w h hm0 hwc hdd
    rw [← hk] at hw
    refine hw.mono ?_
    rintro e w' (⟨q, rfl, hg⟩ | ⟨q, rfl, hg⟩)
    · rw [q]; exact ⟨rfl, hg⟩
    · rw [q]; exact ⟨rfl, hg⟩
theorem Barrier_fnK (y : Lay) (D : Dsk) (w : World) (h : IsD w y D) (hdd : D.deeds + 1 < 2 ^ 60) :
    Calls Tryz.prog 82 #[.pointer (some ⟨y.p, 0, none⟩)] w fun e w' => e = .returned (.int .i64 (barD D).2) ∧ Goes y w (barD D).1 w' := by
  unfold barD
  cases hon : D.on
  · have e : D.mayB = 3 := by simp [Dsk.mayB, hon]
    refine (Barrier_not y D w h (by rw [e]; decide)).mono ?_
    rintro e' w' ⟨rfl, rfl⟩
    rw [e]
    exact ⟨rfl, Goes.of h (Only.refl _ _)⟩
  · have e : D.mayB = 0 := by simp [Dsk.mayB, hon]
    cases hf : D.fallsNow
    · exact Barrier_ok y D w h e hf hdd
    · exact Barrier_falls y D w h e hf

/-- The variable errors.errorType is as it must be, and lies below block B. -/
def TyOk (B : Nat) (w : World) : Prop := ErrTy w ∧ 0 < B
theorem TyOk.below {B : Nat} {w w' : World} (h : TyOk B w) (b : Below B w w') : TyOk B w' := by
  refine ⟨?_, h.2⟩
  have h1 := h.1
  unfold ErrTy at *
  rw [World.cell?_of_block (w := w) (a := ⟨0, 0, none⟩) (b.block _ h.2)]
  exact h1
def KeptG (G : Nat → Prop) (w w' : World) : Prop := ∀ b, G b → w'.heap[b]? = w.heap[b]?
theorem KeptG.refl {G : Nat → Prop} {w : World} : KeptG G w w := fun _ _ => rfl
theorem KeptG.trans {G : Nat → Prop} {a b c : World} (h : KeptG G a b) (k : KeptG G b c) : KeptG G a c := fun i hi => (k i hi).trans (h i hi)
theorem KeptG.cell {G : Nat → Prop} {w w' : World} (h : KeptG G w w') (a : Addr) (ha : G a.block) : w'.cell? a = w.cell? a := World.cell?_of_block (h _ ha)
theorem KeptG.mono {G G' : Nat → Prop} {w w' : World} (h : KeptG G w w') (hG : ∀ b, G' b → G b) : KeptG G' w w' := fun b hb => h b (hG b hb)

/-- THE DISK D LIES AT p, all of it from block B on; the blocks G are there and no part of it. -/
def AtK (B : Nat) (G : Nat → Prop) (w : World) (p : Nat) (D : Dsk) : Prop :=
  TyOk B w ∧ ∃ y : Lay, y.p = p ∧ IsD w y D ∧ (∀ b, y.foot b → B ≤ b) ∧ ∀ b, G b → b < w.heap.size ∧ ¬ y.foot b
section
variable {B : Nat} {G G' : Nat → Prop} {w w' : World} {p : Nat} {D D' : Dsk} {F : Nat} {args : Array Value} {r : Ending}
theorem AtK.le (h : AtK B G w p D) : B ≤ w.heap.size := by
  obtain ⟨_, y, _, hi, hf, _⟩ := h
  have := hf y.p (.inl rfl); have := hi.small y.p (.inl rfl); omega
theorem AtK.lt (h : AtK B G w p D) (b : Nat) (hb : G b) : b < w.heap.size := by
  obtain ⟨_, y, _, hi, hf, hg⟩ := h
  exact (hg b hb).1
theorem AtK.mono (h : AtK B G w p D) (hG : ∀ b, G' b → G b) : AtK B G' w p D := by
  obtain ⟨t, y, e, hi, hf, hg⟩ := h
  exact ⟨t, y, e, hi, hf, fun b q => hg b (hG b q)⟩
/-- Only blocks that it hasn't got have turned. -/
theorem AtK.keep (h : AtK B G w p D) (hs : w.heap.size ≤ w'.heap.size) (hb : ∀ b, ¬ G b → b < w.heap.size → w'.heap[b]? = w.heap[b]?) (ht : TyOk B w') : AtK B G w' p D := by
  obtain ⟨t, y, e, hi, hf, hg⟩ := h
  exact ⟨ht, y, e, hi.of_blocks hs (fun b q => hb b (fun g => (hg b g).2 q) (hi.small b q)), hf, fun b q => ⟨Nat.lt_of_lt_of_le (hg b q).1 hs, (hg b q).2⟩⟩
theorem AtK.below (h : AtK B G w p D) (b : Below w.heap.size w w') : AtK B G w' p D :=
  h.keep b.size (fun k _ q => b.block k q) (h.1.below (b.mono h.le))
theorem AtK.drew (h : AtK B G w p D) : AtK B G w.drew p D := h.below (Below.refl _ _).drew
theorem AtK.alloc (h : AtK B G w p D) (o : Obj) : AtK B G (w.alloc o) p D := h.below ((Below.refl _ _).alloc (Nat.le_refl _) _)
/-- What is made anew is no part of it. -/
theorem AtK.more (h : AtK B G w p D) (b : Below w.heap.size w w') : AtK B (fun k => G k ∨ (w.heap.size ≤ k ∧ k < w'.heap.size)) w' p D := by
  have hB := h.le
  obtain ⟨t, y, e, hi, hf, hg⟩ := h
  refine ⟨t.below (b.mono hB), y, e, hi.of_blocks b.size (fun k q => b.block k (hi.small k q)), hf, fun k q => ?_⟩
  rcases q with q | q
  · exact ⟨Nat.lt_of_lt_of_le (hg k q).1 b.size, (hg k q).2⟩
  · exact ⟨q.2, fun f => by have := hi.small k f; omega⟩
theorem AtK.set (h : AtK B G w p D) {a : Addr} (ha : G a.block) (hB : B ≤ a.block) (v : Value) : AtK B G (w.setCell a v) p D :=
  h.keep (by rw [size_setCell']; exact Nat.le_refl _) (fun b hb _ => heap_setCell_ne _ _ _ _ (fun e => hb (e ▸ ha))) (h.1.below ((Below.refl B w).setCell hB v))
theorem AtK.go (h : AtK B G w p D) (c : ∀ y : Lay, y.p = p → IsD w y D → (∀ b, y.foot b → B ≤ b) → Calls Tryz.prog F args w fun e w' => e = r ∧ Goes y w D' w') :
    Calls Tryz.prog F args w fun e w' => e = r ∧ AtK B G w' p D' ∧ Below B w w' ∧ KeptG G w w' := by
  have hB := h.le
  obtain ⟨t, y, e, hi, hf, hg⟩ := h
  refine (c y e hi hf).mono fun e' w' ⟨he, y', hp, hi', hf', ho⟩ => ?_
  have hb := ho.below hf hB
  refine ⟨he, ⟨t.below hb, y', hp.trans e, hi', fun b q => ?_, fun b q => ⟨Nat.lt_of_lt_of_le (hg b q).1 ho.size, fun f => ?_⟩⟩, hb, fun b q => ho.block b (hg b q).1 (hg b q).2⟩
  · rcases hf' b q with q | q
    · exact hf b q
    · omega
  · rcases hf' b f with f | f
    · exact (hg b q).2 f
    · have := (hg b q).1; omega
theorem Write_k (h : AtK B G w p D) (k : Int) (b : ByteArray) (hwc : D.waits.length + 1 < 2 ^ 40) (hdd : D.deeds + 1 < 2 ^ 60) :
    Calls Tryz.prog 80 #[.pointer (some ⟨p, 0, none⟩), .int .i64 k, .string b] w fun e w' => e = .returned (.int .i64 (wrD D k b).2) ∧ AtK B G w' p (wrD D k b).1 ∧ Below B w w' ∧ KeptG G w w' :=
  h.go fun y hp hi _ => by subst hp; exact Write_fnK y D k b w hi hwc hdd
theorem Barrier_k (h : AtK B G w p D) (hdd : D.deeds + 1 < 2 ^ 60) :
    Calls Tryz.prog 82 #[.pointer (some ⟨p, 0, none⟩)] w fun e w' => e = .returned (.int .i64 (barD D).2) ∧ AtK B G w' p (barD D).1 ∧ Below B w w' ∧ KeptG G w w' :=
  h.go fun y hp hi _ => by subst hp; exact Barrier_fnK y D w hi hdd
theorem Read_k (h : AtK B G w p D) (k : Int) :
    Calls Tryz.prog 83 #[.pointer (some ⟨p, 0, none⟩), .int .i64 k] w fun e w' =>
      e = .returned (.tuple #[.string (if D.mayR k = 0 then D.at_ k else ByteArray.empty), .int .i64 (D.mayR k)]) ∧ w' = w := by
  obtain ⟨_, y, rfl, hi, hft, _⟩ := h
  exact Read_is y D k w hi
theorem Len_k (h : AtK B G w p D) : Calls Tryz.prog 23 #[.pointer (some ⟨p, 0, none⟩)] w fun e w' => e = .returned (.int .i64 (D.lasts.length : Int)) ∧ w' = w := by
  obtain ⟨_, y, rfl, hi, hft, _⟩ := h
  exact Len_is y D w hi
theorem AtK.shape (h : AtK B G w p D) : D.now.length = D.lasts.length ∧ D.lasts.length ≤ 3000 ∧ (∀ b ∈ D.now, b.size = 32) ∧ (∀ b ∈ D.lasts, b.size = 32) ∧ ∀ x ∈ D.waits, x.2.size = 32 ∧ x.1 < D.lasts.length := by
  obtain ⟨_, y, _, hi, _, _⟩ := h
  exact ⟨hi.shp.len, hi.shp.most, hi.shp.blkN, hi.shp.blkL, hi.shp.blkW⟩
theorem New_k (n : Int) (w : World) (ht : TyOk B w) (hB : B ≤ w.heap.size) :
    Calls Tryz.prog 5 #[.int .i64 n] w fun e w' => ∃ p, e = .returned (.pointer (some ⟨p, 0, none⟩)) ∧ AtK B (fun b => b < w.heap.size) w' p (newD (min (max n 0) 3000).toNat) ∧ Below w.heap.size w w' ∧ w.heap.size ≤ p :=
  (New_is n w).mono fun _ _ ⟨y, he, hi, hf, ho⟩ => by
    have hb := ho.below (B := w.heap.size) (fun _ q => q.elim) (Nat.le_refl _)
    exact ⟨y.p, he, ⟨ht.below (hb.mono hB), y, rfl, hi, fun b q => Nat.le_trans hB (hf b q), fun b q => ⟨Nat.lt_of_lt_of_le q ho.size, fun f => by have := hf b f; omega⟩⟩, hb, hf y.p (.inl rfl)⟩
end
end Go.Proofs.YtbcdmcafobjpcaaGreatDoor
