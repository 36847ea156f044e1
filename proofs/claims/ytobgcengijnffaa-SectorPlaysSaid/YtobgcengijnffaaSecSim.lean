/- The program's disk and the document's, as data: what they share, and that each deed keeps it. Plain lemmas. -/
import Derived.Test.YtobgcengijnffaaRefNew
import Derived.Test.YtobgcengijnffaaSecSmash
import Derived.Test.YtobgcengijnffaaSecArm
namespace Go.Proofs.Ytobgcengijnffaa
open Go.RowKit

structure Sim (D : Dsk) (R : Rsk) : Prop where
  on : D.on = R.on
  lasts : D.lasts = R.lasts
  waits : D.waits = R.waits
  deeds : D.deeds = R.deeds
  lit : D.lit = R.arm
  arm : R.arm = true → (D.left : Int) = R.n ∧ D.keep = R.keep
  now : D.now = R.laidL R.waits.length
  off : R.on = false → R.waits = []

theorem laidL_same {R R' : Rsk} (h1 : R'.lasts = R.lasts) (h2 : R'.waits = R.waits) : ∀ n, R'.laidL n = R.laidL n
  | 0 => h1
  | n + 1 => by
    have := laidL_same h1 h2 n
    simp only [Rsk.laidL, this, h2]
theorem laidL_push_le {R : Rsk} {k : Nat} {b : ByteArray} : ∀ n, n ≤ R.waits.length → (R.push k b).laidL n = R.laidL n
  | 0, _ => rfl
  | n + 1, h => by
    have := laidL_push_le (R := R) (k := k) (b := b) n (by omega)
    have e : (R.push k b).waits[n]? = R.waits[n]? := by
      show (R.waits ++ [(k, b)])[n]? = _
      rw [List.getElem?_append_left (by omega)]
    simp only [Rsk.laidL, this, e]
theorem laidL_push (R : Rsk) (k : Nat) (b : ByteArray) : (R.push k b).laidL R.waits.length = R.laidL R.waits.length := laidL_push_le _ (Nat.le_refl _)
theorem Sim.new (k : Nat) : Sim (newD k) (newR k) := ⟨rfl, rfl, rfl, rfl, rfl, fun h => by simp [newR] at h, rfl, fun _ => rfl⟩
section
variable {D : Dsk} {R : Rsk}
theorem Sim.mayW (s : Sim D R) (k : Int) (b : ByteArray) : D.mayW k b = R.mayW k b := by
  unfold Dsk.mayW Rsk.mayW Dsk.has
  rw [s.on, s.lasts]
  congr 1
  by_cases h : 0 ≤ k ∧ k < R.lasts.length ∧ b.size = 32
  · rw [if_pos h, if_pos (by simp; omega)]
  · rw [if_neg h, if_neg (by simp; omega)]
theorem Sim.goes (s : Sim D R) : D.fallsNow = R.goes := by
  unfold Dsk.fallsNow Rsk.goes
  rw [s.lit]
  cases ha : R.arm
  · rfl
  · have := (s.arm ha).1
    simp only [Bool.true_and]
    rw [Bool.eq_iff_iff]
    simp
    omega
theorem barL_eq (h1 : D.lasts = R.lasts) (h2 : D.waits = R.waits) : ∀ n, D.barL n = R.laidL n
  | 0 => h1
  | n + 1 => by
    have := barL_eq h1 h2 n
    simp only [Dsk.barL, Rsk.laidL, this, h2]
    cases R.waits[n]? <;> rfl
theorem crashL_eq (h1 : D.lasts = R.lasts) (h2 : D.waits = R.waits) (kl : List Int) : ∀ n, D.crashL kl n = R.crashL kl n
  | 0 => h1
  | n + 1 => by
    have := crashL_eq h1 h2 kl n
    simp only [Dsk.crashL, Rsk.crashL, this, h2]
    cases R.waits[n]? <;> rfl
theorem Sim.dec (s : Sim D R) (hg : R.goes = false) (hn : R.n < 2 ^ 63) : Sim D.down R.dec := by
  have e : D.down = { D with left := if D.lit then D.left - 1 else D.left } := by
    unfold Dsk.down
    cases hl : D.lit
    · cases D; simp_all
    · rfl
  rw [e]
  refine ⟨s.on, s.lasts, s.waits, s.deeds, s.lit, fun ha => ?_, ?_, s.off⟩
  · obtain ⟨h1, h2⟩ := s.arm ha
    refine ⟨?_, h2⟩
    have ha' : R.arm = true := ha
    have hz : R.n ≠ 0 := by
      intro q
      simp [Rsk.goes, ha', q] at hg
    show ((if D.lit then D.left - 1 else D.left : Nat) : Int) = wrap64 (R.n - 1)
    rw [s.lit, ha', if_pos rfl]
    have : wrap64 (R.n - 1) = R.n - 1 := by unfold wrap64; omega
    rw [this]
    omega
  · show D.now = R.dec.laidL R.waits.length
    rw [laidL_dec]
    exact s.now
theorem Sim.crash (s : Sim D R) (kl : List Int) : Sim (D.crash kl) (R.crash kl) := by
  have e := crashL_eq s.lasts s.waits kl
  refine ⟨rfl, ?_, rfl, s.deeds, rfl, fun h => by simp [Rsk.crash] at h, ?_, fun _ => rfl⟩
  · show D.crashL kl D.waits.length = R.crashL kl R.waits.length
    rw [e, s.waits]
  · show D.crashL kl D.waits.length = R.crashL kl R.waits.length
    rw [e, s.waits]
theorem Sim.deed (s : Sim D R) : Sim D.deed R.deed := by
  refine ⟨s.on, s.lasts, s.waits, ?_, s.lit, s.arm, ?_, s.off⟩
  · show D.deeds + 1 = R.deeds + 1
    rw [s.deeds]
  · rw [show R.deed.laidL R.deed.waits.length = R.laidL R.waits.length from laidL_same (R := R) (R' := R.deed) rfl rfl _]
    exact s.now
theorem Sim.push (s : Sim D R) (hon : R.on = true) (k : Nat) (b : ByteArray) : Sim (D.push k b) (R.push k b) := by
  refine ⟨s.on, s.lasts, ?_, s.deeds, s.lit, s.arm, ?_, fun h => ?_⟩
  · show D.waits ++ [(k, b)] = R.waits ++ [(k, b)]
    rw [s.waits]
  · show D.now.set k b = (R.push k b).laidL (R.waits ++ [(k, b)]).length
    have hx : (R.push k b).waits[R.waits.length]? = some (k, b) := by simp [Rsk.push]
    rw [List.length_append]
    show _ = (R.push k b).laidL (R.waits.length + 1)
    rw [laidL_succ hx, s.now, laidL_push]
  · have : R.on = false := h
    rw [hon] at this
    cases this
theorem Sim.bar (s : Sim D R) : Sim D.bar R.bar := by
  have e := barL_eq s.lasts s.waits
  refine ⟨s.on, ?_, rfl, ?_, s.lit, s.arm, ?_, fun _ => rfl⟩
  · show D.barL D.waits.length = R.laidL R.waits.length
    rw [e, s.waits]
  · show D.deeds + 1 = R.deeds + 1
    rw [s.deeds]
  · exact s.now
theorem Sim.disarm (s : Sim D R) : Sim D.disarm { R with arm := false } := by
  refine ⟨s.on, s.lasts, s.waits, s.deeds, rfl, fun h => by simp at h, ?_, s.off⟩
  rw [show ({ R with arm := false } : Rsk).laidL ({ R with arm := false } : Rsk).waits.length = R.laidL R.waits.length from laidL_same (R := R) (R' := { R with arm := false }) rfl rfl _]
  exact s.now
theorem Sim.power (s : Sim D R) : Sim { D with on := true } { R with on := true } := by
  refine ⟨rfl, s.lasts, s.waits, s.deeds, s.lit, s.arm, ?_, fun h => by simp at h⟩
  rw [show ({ R with on := true } : Rsk).laidL ({ R with on := true } : Rsk).waits.length = R.laidL R.waits.length from laidL_same (R := R) (R' := { R with on := true }) rfl rfl _]
  exact s.now
theorem Sim.armed (s : Sim D R) (n : Nat) (kl : List Int) : Sim (D.arm n kl) { R with arm := decide (0 ≤ (n : Int)), n := (n : Int), keep := kl } := by
  refine ⟨s.on, s.lasts, s.waits, s.deeds, ?_, fun h => ⟨rfl, rfl⟩, ?_, s.off⟩
  · show true = decide (0 ≤ (n : Int))
    simp
  · rw [show ({ R with arm := decide (0 ≤ (n : Int)), n := (n : Int), keep := kl } : Rsk).laidL R.waits.length = R.laidL R.waits.length from laidL_same (R := R) (R' := { R with arm := decide (0 ≤ (n : Int)), n := (n : Int), keep := kl }) rfl rfl _]
    exact s.now
theorem Sim.unarmed (s : Sim D R) (n : Int) (hn : n < 0) (kl : List Int) : Sim D.disarm { R with arm := decide (0 ≤ n), n := n, keep := kl } := by
  have e : decide (0 ≤ n) = false := by simp; omega
  rw [e]
  refine ⟨s.on, s.lasts, s.waits, s.deeds, rfl, fun h => by simp at h, ?_, s.off⟩
  rw [show ({ R with arm := false, n := n, keep := kl } : Rsk).laidL R.waits.length = R.laidL R.waits.length from laidL_same (R := R) (R' := { R with arm := false, n := n, keep := kl }) rfl rfl _]
  exact s.now
theorem Sim.smash (s : Sim D R) (hon : R.on = false) (m : Nat) (b : ByteArray) : Sim { D with lasts := D.lasts.set m b, now := D.now.set m b } { R with lasts := R.lasts.set m b } := by
  have hw := s.off hon
  refine ⟨s.on, ?_, s.waits, s.deeds, s.lit, s.arm, ?_, s.off⟩
  · show D.lasts.set m b = R.lasts.set m b
    rw [s.lasts]
  · show D.now.set m b = ({ R with lasts := R.lasts.set m b } : Rsk).laidL R.waits.length
    have e := s.now
    rw [hw] at e ⊢
    rw [e]
    rfl
theorem Sim.mayS (s : Sim D R) (k : Int) (b : ByteArray) : D.mayS k b = R.maySmash k b := by
  unfold Dsk.mayS Rsk.maySmash Dsk.has
  rw [s.on, s.lasts, Bool.and_assoc]
theorem Sim.mayB (s : Sim D R) : D.mayB = if R.on then 0 else 3 := by
  unfold Dsk.mayB
  rw [s.on]
end
end Go.Proofs.Ytobgcengijnffaa
