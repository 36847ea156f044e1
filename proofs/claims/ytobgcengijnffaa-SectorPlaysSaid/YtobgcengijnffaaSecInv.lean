/- What SectorPlays' loop keeps; Arm on both; the start; the turns of a twin that nobody looks at. -/
import Derived.Test.YtobgcengijnffaaSecDuo
namespace Go.Proofs.Ytobgcengijnffaa
open Go.RowKit

/-- What holds behind i ops. -/
structure Inv (i : Nat) (D : Dsk) (R : Rsk) : Prop where
  sim : Sim D R
  deeds : D.deeds ≤ i
  waits : D.waits.length ≤ i
  n : R.n < 2 ^ 63
  keep : D.keep.length ≤ 60
theorem Inv.new (k : Nat) : Inv 0 (newD k) (newR k) := ⟨Sim.new k, Nat.le_refl _, Nat.le_refl _, by simp [newR], by simp [newD]⟩
theorem dec_n (R : Rsk) : R.dec.n < 2 ^ 63 := by show wrap64 (R.n - 1) < 2 ^ 63; unfold wrap64; omega
section
variable {i : Nat} {D : Dsk} {R : Rsk}
theorem Inv.rdeeds (v : Inv i D R) : R.deeds ≤ i := by rw [← v.sim.deeds]; exact v.deeds
theorem Inv.rwaits (v : Inv i D R) : R.waits.length ≤ i := by rw [← v.sim.waits]; exact v.waits
theorem Inv.up (v : Inv i D R) {j : Nat} (h : i ≤ j) : Inv j D R := ⟨v.sim, Nat.le_trans v.deeds h, Nat.le_trans v.waits h, v.n, v.keep⟩
theorem down_waits (D : Dsk) : D.down.waits = D.waits := by unfold Dsk.down; split <;> rfl
theorem down_keep (D : Dsk) : D.down.keep = D.keep := by unfold Dsk.down; split <;> rfl
theorem write_deeds (D : Dsk) (k : Int) (b : ByteArray) : (D.write k b).1.deeds ≤ D.deeds + 1 ∧ (D.write k b).1.waits.length ≤ D.waits.length + 1 ∧ (D.write k b).1.keep.length ≤ D.keep.length := by
  unfold Dsk.write
  split
  · exact ⟨Nat.le_succ _, Nat.le_succ _, Nat.le_refl _⟩
  · split
    · exact ⟨Nat.le_succ _, by simp [Dsk.crash], by simp [Dsk.crash]⟩
    · refine ⟨?_, ?_, ?_⟩
      · show (D.push k.toNat b).down.deeds + 1 ≤ _
        rw [down_deeds]; exact Nat.le_refl _
      · show (D.push k.toNat b).down.waits.length ≤ _
        rw [down_waits]; simp [Dsk.push]
      · show (D.push k.toNat b).down.keep.length ≤ _
        rw [down_keep]; exact Nat.le_refl _
theorem barrier_deeds (D : Dsk) : D.barrier.1.deeds ≤ D.deeds + 1 ∧ D.barrier.1.waits.length ≤ D.waits.length + 1 ∧ D.barrier.1.keep.length ≤ D.keep.length := by
  unfold Dsk.barrier
  split
  · split
    · exact ⟨Nat.le_succ _, by simp [Dsk.crash], by simp [Dsk.crash]⟩
    · refine ⟨?_, by simp [Dsk.bar], ?_⟩
      · show D.down.deeds + 1 ≤ _
        rw [down_deeds]; exact Nat.le_refl _
      · show D.down.keep.length ≤ _
        rw [down_keep]; exact Nat.le_refl _
  · exact ⟨Nat.le_succ _, Nat.le_succ _, Nat.le_refl _⟩
theorem crashed_deeds (D : Dsk) (kl : List Int) : (D.crashed kl).1.deeds ≤ D.deeds + 1 ∧ (D.crashed kl).1.waits.length ≤ D.waits.length + 1 ∧ (D.crashed kl).1.keep.length ≤ D.keep.length := by
  unfold Dsk.crashed
  split
  · exact ⟨Nat.le_succ _, by simp [Dsk.crash], by simp [Dsk.crash]⟩
  · exact ⟨Nat.le_succ _, Nat.le_succ _, by simp [Dsk.disarm]⟩
theorem Inv.write (v : Inv i D R) (k : Int) (b : ByteArray) : Inv (i + 1) (D.write k b).1 (R.write k b).1 ∧ (D.write k b).2 = (R.write k b).2 := by
  obtain ⟨h1, h2, h3⟩ := write_deeds D k b
  have hs := v.sim.write v.n k b
  refine ⟨⟨hs.1, Nat.le_trans h1 (Nat.succ_le_succ v.deeds), Nat.le_trans h2 (Nat.succ_le_succ v.waits), ?_, Nat.le_trans h3 v.keep⟩, hs.2⟩
  unfold Rsk.write
  split
  · exact v.n
  · split
    · exact dec_n R
    · exact dec_n R
theorem Inv.barrier (v : Inv i D R) : Inv (i + 1) D.barrier.1 R.barrier.1 ∧ D.barrier.2 = R.barrier.2 := by
  obtain ⟨h1, h2, h3⟩ := barrier_deeds D
  have hs := v.sim.barrier v.n
  refine ⟨⟨hs.1, Nat.le_trans h1 (Nat.succ_le_succ v.deeds), Nat.le_trans h2 (Nat.succ_le_succ v.waits), ?_, Nat.le_trans h3 v.keep⟩, hs.2⟩
  unfold Rsk.barrier
  split
  · split
    · exact dec_n R
    · exact dec_n R
  · exact v.n
theorem Inv.crashed (v : Inv i D R) (kl : List Int) : Inv (i + 1) (D.crashed kl).1 (R.crashed kl).1 ∧ (D.crashed kl).2 = (R.crashed kl).2 := by
  obtain ⟨h1, h2, h3⟩ := crashed_deeds D kl
  have hs := v.sim.crashed kl
  refine ⟨⟨hs.1, Nat.le_trans h1 (Nat.succ_le_succ v.deeds), Nat.le_trans h2 (Nat.succ_le_succ v.waits), ?_, Nat.le_trans h3 v.keep⟩, hs.2⟩
  unfold Rsk.crashed
  split
  · exact v.n
  · exact v.n
theorem Inv.power (v : Inv i D R) : Inv (i + 1) { D with on := true } { R with on := true } ∧ (!D.on) = (!R.on) :=
  ⟨⟨v.sim.power, Nat.le_succ_of_le v.deeds, Nat.le_succ_of_le v.waits, v.n, v.keep⟩, by rw [v.sim.on]⟩
theorem Inv.smashed (v : Inv i D R) (k : Int) (b : ByteArray) : Inv (i + 1) (D.smashed k b).1 (R.smashed k b).1 ∧ (D.smashed k b).2 = (R.smashed k b).2 := by
  have hs := v.sim.smashed k b
  refine ⟨⟨hs.1, ?_, ?_, ?_, ?_⟩, hs.2⟩
  · unfold Dsk.smashed; split <;> exact Nat.le_succ_of_le v.deeds
  · unfold Dsk.smashed; split <;> exact Nat.le_succ_of_le v.waits
  · unfold Rsk.smashed; split <;> exact v.n
  · unfold Dsk.smashed; split <;> exact v.keep
/-- Behind Arm. -/
def Dsk.arming (D : Dsk) (n : Int) (kl : List Int) : Dsk := if 0 ≤ n then D.arm n.toNat kl else D.disarm
def Rsk.arming (R : Rsk) (n : Int) (kl : List Int) : Rsk := { R with arm := decide (0 ≤ n), n := n, keep := kl }
theorem Inv.arming (v : Inv i D R) (n : Int) (hn : n < 2 ^ 63) (kl : List Int) (hk : kl.length ≤ 60) : Inv (i + 1) (D.arming n kl) (R.arming n kl) := by
  unfold Dsk.arming Rsk.arming
  by_cases h : 0 ≤ n
  · rw [if_pos h]
    obtain ⟨m, rfl⟩ := Int.eq_ofNat_of_zero_le h
    exact ⟨v.sim.armed m kl, Nat.le_succ_of_le v.deeds, Nat.le_succ_of_le v.waits, hn, hk⟩
  · rw [if_neg h]
    exact ⟨v.sim.unarmed n (by omega) kl, Nat.le_succ_of_le v.deeds, Nat.le_succ_of_le v.waits, hn, by simp [Dsk.disarm]⟩
end
section
variable {B : Nat} {w : World} {p q t : Nat} {D T : Dsk} {R : Rsk}
theorem Arm_duo (h : Duo B w p q D R) (n : Int) (hn : n < 2 ^ 63) (ka : Option Addr) (kl : List Int) (kc : Nat) (hk : IntsAt w ka kl) (hoff : ∀ y : Lay, IsD w y D → y.p = p → (∀ b, y.foot b → B ≤ b) → ∀ b : Addr, 0 < kl.length → ka = some b → b.block ≠ y.p) (hkl : kl.length < 2 ^ 39) :
    Calls Try.prog 21 #[.pointer (some ⟨p, 0, none⟩), .int .i64 n, .slice ka kl.length kc] w fun e w' => e = .returned (.tuple #[]) ∧ Duo B w' p q (D.arming n kl) R ∧ Below B w w' :=
  h.goD fun y hp hi hb => by
    subst hp
    unfold Dsk.arming
    by_cases h0 : 0 ≤ n
    · rw [if_pos h0]
      obtain ⟨m, rfl⟩ := Int.eq_ofNat_of_zero_le h0
      exact Arm_is y D w m (by omega) ka kl kc hi hk (hoff y hi rfl hb) (by omega)
    · rw [if_neg h0]
      exact Arm_neg y D w n (by omega) _ hi
theorem rArm_duo (h : Duo B w p q D R) (n : Int) (ka : Option Addr) (kl : List Int) (kc : Nat) (hk : Low B w ka kl) (hkl : kl.length < 2 ^ 39) :
    Calls Try.prog 22 #[.pointer (some ⟨q, 0, none⟩), .int .i64 n, .slice ka kl.length kc] w fun e w' => e = .returned (.tuple #[]) ∧ Duo B w' p q D (R.arming n kl) ∧ Below B w w' :=
  have hB := h.le
  h.goR fun y hp hi _ => by subst hp; exact rArm_is y R w n ka kl kc hi (hk.ints hB) hkl
theorem Disks_duo (h : At B w p D) (n : Int) (hn : n ≤ 40) :
    Calls Try.prog 10 #[.int .i64 n] w fun e w' => ∃ q, e = .returned (.pointer (some ⟨q, 0, none⟩)) ∧ Duo B w' p q D (newR (max n 0).toNat) ∧ Below B w w' := by
  have hle := h.le
  obtain ⟨y, rfl, hi, hft⟩ := h
  refine (Disks_is n hn w).mono fun e w' ⟨z, he, hz, hf, ho⟩ => ⟨z.p, he, ⟨y, z, rfl, rfl, hi.only ho (fun _ _ q => q), hz, hft, fun b q => Nat.le_trans hle (hf b q), fun b q r => ?_⟩, ho.below (fun _ q => q.elim) hle⟩
  have := hi.small b q
  have := hf b r
  omega
theorem Write_trio (h : Trio B w p q t D R T) (k : Int) (b : ByteArray) (hwc : T.waits.length + 1 < 2 ^ 40) (hdd : T.deeds + 1 < 2 ^ 60) :
    Calls Try.prog 13 #[.pointer (some ⟨t, 0, none⟩), .int .i64 k, .string b] w fun e w' => e = .returned (.int .i64 (T.write k b).2) ∧ Trio B w' p q t D R (T.write k b).1 ∧ Below B w w' :=
  h.goT fun y hp hi => by subst hp; exact Write_fn y T k b w hi hwc hdd
theorem Barrier_trio (h : Trio B w p q t D R T) (hdd : T.deeds + 1 < 2 ^ 60) :
    Calls Try.prog 15 #[.pointer (some ⟨t, 0, none⟩)] w fun e w' => e = .returned (.int .i64 T.barrier.2) ∧ Trio B w' p q t D R T.barrier.1 ∧ Below B w w' :=
  h.goT fun y hp hi => by subst hp; exact Barrier_fn y T w hi hdd
theorem Crash_trio (h : Trio B w p q t D R T) :
    Calls Try.prog 17 #[.pointer (some ⟨t, 0, none⟩), .slice none 0 0] w fun e w' => e = .returned (.int .i64 (T.crashed []).2) ∧ Trio B w' p q t D R (T.crashed []).1 ∧ Below B w w' :=
  h.goT fun y hp hi => by
    subst hp
    exact Crash_fn y T w none [] 0 hi ⟨fun j z hz => by simp at hz, fun a q _ => by simp at q⟩ (by simp)
end
end Go.Proofs.Ytobgcengijnffaa
