/- Each deed as a function on data, of the program's disk and of the document's; that both keep the coupling and tell the same. -/
import Derived.Test.YtobgcengijnffaaSecIs
namespace Go.Proofs.Ytobgcengijnffaa
open Go.RowKit

def Dsk.write (D : Dsk) (k : Int) (b : ByteArray) : Dsk × Int :=
  if D.mayW k b ≠ 0 then (D, D.mayW k b) else if D.fallsNow then ((D.push k.toNat b).crash D.keep, 3) else ((D.push k.toNat b).down.deed, 0)
def Rsk.write (R : Rsk) (k : Int) (b : ByteArray) : Rsk × Int :=
  if R.mayW k b ≠ 0 then (R, R.mayW k b) else if R.goes then ((R.dec.push k.toNat b).crash R.keep, 3) else ((R.dec.push k.toNat b).deed, 0)
def Dsk.barrier (D : Dsk) : Dsk × Int :=
  if D.on then (if D.fallsNow then (D.crash D.keep, 3) else (D.down.bar, 0)) else (D, 3)
def Rsk.barrier (R : Rsk) : Rsk × Int :=
  if R.on then (if R.goes then (R.dec.crash R.keep, 3) else (R.dec.bar, 0)) else (R, 3)
def Dsk.crashed (D : Dsk) (kl : List Int) : Dsk × Int := if D.on then (D.crash kl, (lostN kl D.waits.length : Int)) else (D.disarm, 0)
def Rsk.crashed (R : Rsk) (kl : List Int) : Rsk × Int := if R.on then (R.crash kl, (lostN kl R.waits.length : Int)) else ({ R with arm := false }, 0)
def Dsk.smashed (D : Dsk) (k : Int) (b : ByteArray) : Dsk × Bool := if D.mayS k b then ({ D with lasts := D.lasts.set k.toNat b, now := D.now.set k.toNat b }, true) else (D, false)
def Rsk.smashed (R : Rsk) (k : Int) (b : ByteArray) : Rsk × Bool := if R.maySmash k b then ({ R with lasts := R.lasts.set k.toNat b }, true) else (R, false)

theorem Sim.crash' {D : Dsk} {R : Rsk} (h1 : D.lasts = R.lasts) (h2 : D.waits = R.waits) (h3 : D.deeds = R.deeds) (kl : List Int) : Sim (D.crash kl) (R.crash kl) := by
  have e := crashL_eq h1 h2 kl
  refine ⟨rfl, ?_, rfl, h3, rfl, fun h => by simp [Rsk.crash] at h, ?_, fun _ => rfl⟩
  · show D.crashL kl D.waits.length = R.crashL kl R.waits.length
    rw [e, h2]
  · show D.crashL kl D.waits.length = R.crashL kl R.waits.length
    rw [e, h2]
section
variable {D : Dsk} {R : Rsk}
theorem mayW_on_r {k : Int} {b : ByteArray} (h : R.mayW k b = 0) : R.on = true := by
  unfold Rsk.mayW at h
  split at h
  · assumption
  · cases h
theorem goes_arm (h : R.goes = true) : R.arm = true := by
  unfold Rsk.goes at h
  simp at h
  exact h.1
theorem Sim.write (s : Sim D R) (hn : R.n < 2 ^ 63) (k : Int) (b : ByteArray) : Sim (D.write k b).1 (R.write k b).1 ∧ (D.write k b).2 = (R.write k b).2 := by
  unfold Dsk.write Rsk.write
  rw [s.mayW k b, s.goes]
  by_cases hm : R.mayW k b ≠ 0
  · rw [if_pos hm, if_pos hm]; exact ⟨s, rfl⟩
  · rw [if_neg hm, if_neg hm]
    have hon := mayW_on_r (Decidable.not_not.1 hm)
    by_cases hg : R.goes = true
    case neg => rw [if_neg hg, if_neg hg]; exact ⟨((s.push hon k.toNat b).dec (show R.goes = false by simpa using hg) hn).deed, rfl⟩
    case pos =>
      have hk := (s.arm (goes_arm hg)).2
      rw [if_pos hg, if_pos hg, hk]
      refine ⟨Sim.crash' (D := D.push k.toNat b) (R := R.dec.push k.toNat b) s.lasts ?_ s.deeds R.keep, rfl⟩
      show D.waits ++ [_] = R.waits ++ [_]
      rw [s.waits]
theorem Sim.barrier (s : Sim D R) (hn : R.n < 2 ^ 63) : Sim D.barrier.1 R.barrier.1 ∧ D.barrier.2 = R.barrier.2 := by
  unfold Dsk.barrier Rsk.barrier
  rw [s.on, s.goes]
  by_cases hon : R.on = true
  case neg => rw [if_neg hon, if_neg hon]; exact ⟨s, rfl⟩
  case pos =>
    rw [if_pos hon, if_pos hon]
    by_cases hg : R.goes = true
    case neg => rw [if_neg hg, if_neg hg]; exact ⟨(s.dec (by simpa using hg) hn).bar, rfl⟩
    case pos =>
      have hk := (s.arm (goes_arm hg)).2
      rw [if_pos hg, if_pos hg, hk]
      exact ⟨Sim.crash' (D := D) (R := R.dec) s.lasts s.waits s.deeds R.keep, rfl⟩
theorem Sim.crashed (s : Sim D R) (kl : List Int) : Sim (D.crashed kl).1 (R.crashed kl).1 ∧ (D.crashed kl).2 = (R.crashed kl).2 := by
  unfold Dsk.crashed Rsk.crashed
  rw [s.on]
  by_cases hon : R.on = true
  case neg => rw [if_neg hon, if_neg hon]; exact ⟨s.disarm, rfl⟩
  case pos => rw [if_pos hon, if_pos hon]; exact ⟨s.crash kl, by rw [s.waits]⟩
theorem Sim.smashed (s : Sim D R) (k : Int) (b : ByteArray) : Sim (D.smashed k b).1 (R.smashed k b).1 ∧ (D.smashed k b).2 = (R.smashed k b).2 := by
  unfold Dsk.smashed Rsk.smashed
  rw [s.mayS k b]
  cases hm : R.maySmash k b
  · exact ⟨s, rfl⟩
  · refine ⟨s.smash ?_ _ _, rfl⟩
    unfold Rsk.maySmash at hm
    cases h : R.on
    · rfl
    · rw [h] at hm; simp at hm
end

theorem Write_fn (y : Lay) (D : Dsk) (k : Int) (b : ByteArray) (w : World) (h : IsD w y D) (hwc : D.waits.length + 1 < 2 ^ 40) (hdd : D.deeds + 1 < 2 ^ 60) :
    Calls Try.prog 13 #[.pointer (some ⟨y.p, 0, none⟩), .int .i64 k, .string b] w fun e w' => e = .returned (.int .i64 (D.write k b).2) ∧ Goes y w (D.write k b).1 w' := by
  unfold Dsk.write
  by_cases hm : D.mayW k b ≠ 0
  · rw [if_pos hm]
    refine (Write_not y D k b w h hm).mono ?_
    rintro e w' ⟨rfl, rfl⟩
    exact ⟨rfl, Goes.of h (Only.refl _ _)⟩
  · rw [if_neg hm]
    have hm0 := Decidable.not_not.1 hm
    have hk := mayW_nat hm0
    have hb : b.size = 32 := by
      unfold Dsk.mayW at hm0
      split at hm0
      · split at hm0
        · rename_i q
          simp at q
          exact q.2
        · cases hm0
      · cases hm0
    rw [hk] at hm0
    have hw := Write_ok y D k.toNat b hb w h hm0 hwc hdd
    rw [← hk] at hw
    refine hw.mono ?_
    rintro e w' (⟨q, rfl, hg⟩ | ⟨q, rfl, hg⟩)
    · rw [q]; exact ⟨rfl, hg⟩
    · rw [q]; exact ⟨rfl, hg⟩
theorem rWrite_fn (z : RLay) (R : Rsk) (k : Int) (b : ByteArray) (w : World) (h : IsR w z R) (hwc : R.waits.length + 1 < 2 ^ 38) (hdd : R.deeds + 1 < 2 ^ 60) :
    Calls Try.prog 14 #[.pointer (some ⟨z.p, 0, none⟩), .int .i64 k, .string b] w fun e w' => e = .returned (.int .i64 (R.write k b).2) ∧ GoesR z w (R.write k b).1 w' := by
  unfold Rsk.write
  by_cases hm : R.mayW k b ≠ 0
  · rw [if_pos hm]
    refine (rWrite_not z R w k b h hm).mono ?_
    rintro e w' ⟨rfl, rfl⟩
    exact ⟨rfl, GoesR.refl h⟩
  · rw [if_neg hm]
    have hm0 := Decidable.not_not.1 hm
    have hon := mayW_on_r hm0
    have hk : 0 ≤ k ∧ k < R.lasts.length ∧ b.size = 32 := by
      by_cases q : 0 ≤ k ∧ k < R.lasts.length ∧ b.size = 32
      · exact q
      · rw [Rsk.mayW, hon, if_pos rfl, if_neg q] at hm0; cases hm0
    obtain ⟨hk0, hk1, hb⟩ := hk
    obtain ⟨m, rfl⟩ := Int.eq_ofNat_of_zero_le hk0
    refine (rWrite_ok z R w m b h hon (by omega) hb hwc hdd).mono ?_
    rintro e w' (⟨q, rfl, hg⟩ | ⟨q, rfl, hg⟩)
    · rw [q]; exact ⟨rfl, hg⟩
    · rw [q]; exact ⟨rfl, hg⟩
theorem Barrier_fn (y : Lay) (D : Dsk) (w : World) (h : IsD w y D) (hdd : D.deeds + 1 < 2 ^ 60) :
    Calls Try.prog 15 #[.pointer (some ⟨y.p, 0, none⟩)] w fun e w' => e = .returned (.int .i64 D.barrier.2) ∧ Goes y w D.barrier.1 w' := by
  unfold Dsk.barrier
  cases hon : D.on
  · have e : D.mayB = 3 := by simp [Dsk.mayB, hon]
    refine (Barrier_not y D w h (by rw [e]; decide)).mono ?_
    rintro e' w' ⟨rfl, rfl⟩
    rw [e]
    exact ⟨rfl, Goes.of h (Only.refl _ _)⟩
  · have e : D.mayB = 0 := by simp [Dsk.mayB, hon]
    cases hf : D.fallsNow
    · exact Barrier_ok y D w h e hf hdd
    · exact Barrier_falls y D w h e hf
theorem rBarrier_fn (z : RLay) (R : Rsk) (w : World) (h : IsR w z R) (hdd : R.deeds + 1 < 2 ^ 60) :
    Calls Try.prog 16 #[.pointer (some ⟨z.p, 0, none⟩)] w fun e w' => e = .returned (.int .i64 R.barrier.2) ∧ GoesR z w R.barrier.1 w' := by
  unfold Rsk.barrier
  cases hon : R.on
  · refine (rBarrier_off z R w h hon).mono ?_
    rintro e' w' ⟨rfl, rfl⟩
    exact ⟨rfl, GoesR.refl h⟩
  · cases hf : R.goes
    · exact rBarrier_stays z R w h hon hf hdd
    · exact rBarrier_goes z R w h hon hf
theorem Crash_fn (y : Lay) (D : Dsk) (w : World) (ka : Option Addr) (kl : List Int) (kc : Nat) (h : IsD w y D) (hk : KeepIs w y ka kl) (hkl : kl.length < 2 ^ 62) :
    Calls Try.prog 17 #[.pointer (some ⟨y.p, 0, none⟩), .slice ka kl.length kc] w fun e w' => e = .returned (.int .i64 (D.crashed kl).2) ∧ Goes y w (D.crashed kl).1 w' := by
  unfold Dsk.crashed
  cases hon : D.on
  · exact Crash_off y D w _ h hon
  · exact Crash_on y D w ka kl kc h hk hkl hon
theorem rCrash_fn (z : RLay) (R : Rsk) (w : World) (ka : Option Addr) (kl : List Int) (kc : Nat) (h : IsR w z R) (hk : IntsAt w ka kl) (hoff : ∀ b : Addr, 0 < kl.length → ka = some b → b.block ≠ z.p) (hkl : kl.length < 2 ^ 62) :
    Calls Try.prog 18 #[.pointer (some ⟨z.p, 0, none⟩), .slice ka kl.length kc] w fun e w' => e = .returned (.int .i64 (R.crashed kl).2) ∧ GoesR z w (R.crashed kl).1 w' := by
  unfold Rsk.crashed
  by_cases hon : R.on = true
  case neg => rw [if_neg hon]; exact rCrash_off z R w _ h (by simpa using hon)
  case pos => rw [if_pos hon]; exact rCrash_on z R w ka kl kc h hk hoff hkl hon
theorem Smash_fn (y : Lay) (D : Dsk) (k : Int) (b : ByteArray) (w : World) (h : IsD w y D) :
    Calls Try.prog 23 #[.pointer (some ⟨y.p, 0, none⟩), .int .i64 k, .string b] w fun e w' => e = .returned (.bool (D.smashed k b).2) ∧ Goes y w (D.smashed k b).1 w' := by
  unfold Dsk.smashed
  cases hm : D.mayS k b
  · refine (Smash_not y D k b w h hm).mono ?_
    rintro e w' ⟨rfl, rfl⟩
    exact ⟨rfl, Goes.of h (Only.refl _ _)⟩
  · simp only [Dsk.mayS, Dsk.has, Bool.and_eq_true, Bool.not_eq_true', decide_eq_true_eq, beq_iff_eq] at hm
    obtain ⟨hon, ⟨hk0, hk1⟩, hb⟩ := hm
    obtain ⟨m, rfl⟩ := Int.eq_ofNat_of_zero_le hk0
    exact Smash_ok y D m b hb w h hon (by omega)
theorem rSmash_fn (z : RLay) (R : Rsk) (k : Int) (b : ByteArray) (w : World) (h : IsR w z R) :
    Calls Try.prog 24 #[.pointer (some ⟨z.p, 0, none⟩), .int .i64 k, .string b] w fun e w' => e = .returned (.bool (R.smashed k b).2) ∧ GoesR z w (R.smashed k b).1 w' := by
  unfold Rsk.smashed
  cases hm : R.maySmash k b
  · refine (rSmash_not z R w k b h hm).mono ?_
    rintro e w' ⟨rfl, rfl⟩
    exact ⟨rfl, GoesR.refl h⟩
  · simp only [Rsk.maySmash, Bool.and_eq_true, Bool.not_eq_true', decide_eq_true_eq, beq_iff_eq] at hm
    obtain ⟨⟨hon, hk0, hk1⟩, hb⟩ := hm
    obtain ⟨m, rfl⟩ := Int.eq_ofNat_of_zero_le hk0
    exact rSmash_ok z R w m b h hon (by omega) hb
end Go.Proofs.Ytobgcengijnffaa
