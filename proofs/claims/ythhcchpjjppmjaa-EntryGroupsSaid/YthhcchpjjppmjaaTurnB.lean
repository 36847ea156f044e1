/- A text as bytes, one of them turned, and back. -/
import Derived.Test.YthhcchpjjppmjaaSealMath
import Derived.Laws.IdiomStrings
import Derived.Deep.MidRow
namespace Go.Proofs.Ythhcchpjjppmjaa
open Go.RowKit

theorem bytes_made (w : World) (s : ByteArray) : ∃ (W2 : World) (cap : Nat), (convert 9 27 (.string s)).run Try.prog w = .ok (.slice (some ⟨w.heap.size, 0, none⟩) s.size cap) W2 ∧
    (∀ j (hj : j < s.size), W2.cell? ⟨w.heap.size, j, none⟩ = some (.int .u8 (s[j].toNat : Int))) ∧ (∀ j, j < s.size → W2.frozen? ⟨w.heap.size, j, none⟩ = false) ∧ Below w.heap.size w W2 := by
  refine ⟨_, _, run_bytes_of_string w 9 27 5 s (by kernel_rfl) (by kernel_rfl) (by kernel_rfl), ?_, ?_, ?_⟩
  · intro j hj
    have h := World.cell?_alloc_mark w.drew (bytesRow s (grownCap w s.size 0 5)) 5 ((bytesRow s (grownCap w s.size 0 5)).size, (bytesRow s (grownCap w s.size 0 5)).size + 1) j
    refine Eq.trans h ?_
    exact bytesRow_at s _ j hj
  · intro j hj
    have h := World.frozen?_alloc_mark w.drew (bytesRow s (grownCap w s.size 0 5)) 5 (bytesRow s (grownCap w s.size 0 5)).size ((bytesRow s (grownCap w s.size 0 5)).size + 1) j
    refine Eq.trans h ?_
    have : s.size ≤ (bytesRow s (grownCap w s.size 0 5)).size := by
      simp [bytesRow]
    simp
    omega
  · exact (Below.refl _ _).drew.alloc (Nat.le_refl _) _

def bcl (l : List UInt8) : List Value := l.map fun x => .int .u8 (x.toNat : Int)
theorem bcl_set {w : World} {B k : Nat} {l : List UInt8} (h : w.rangeAt B 0 (bcl l)) (d : UInt8) : (w.setCell ⟨B, k, none⟩ (.int .u8 (d.toNat : Int))).rangeAt B 0 (bcl (l.set k d)) := fun j u hu => by
  simp only [bcl, List.map_set, List.getElem?_set] at hu
  split at hu
  · rename_i e
    subst e
    split at hu
    · rename_i hk
      obtain rfl : Value.int .u8 (d.toNat : Int) = u := by simpa using hu
      have h0 := h k _ (List.getElem?_eq_getElem (l := bcl l) hk)
      simp only [Nat.zero_add] at h0 ⊢
      exact World.cell?_setCell_same _ _ _ h0
    · cases hu
  · rename_i e
    rw [World.cell?_setCell_other _ _ _ _ (by simp [e])]
    exact h j u hu
theorem conv_bcl (w : World) (B n cap : Nat) (l : List UInt8) (hn : l.length = n) (h : w.rangeAt B 0 (bcl l)) :
    (convert 27 9 (.slice (some ⟨B, 0, none⟩) n cap)).run Try.prog w = .ok (.string ⟨l.toArray⟩) w := by
  subst hn
  refine run_convert_bytes_back w 27 9 5 ⟨B, 0, none⟩ cap l (by kernel_rfl) (by kernel_rfl) (by kernel_rfl) fun j hj => ?_
  have := h j (.int .u8 (l[j].toNat : Int)) (by simp [bcl, hj])
  rw [Addr.add_mid]
  exact this
theorem xor_turn (c : UInt8) (y : Int) (hy0 : 1 ≤ y) (hy1 : y < 256) : ∃ d : UInt8, d ≠ c ∧ bits BinOp.xor .u8 (c.toNat : Int) y = (d.toNat : Int) ∧ bits BinOp.xor .u8 (d.toNat : Int) y = (c.toNat : Int) := by
  obtain ⟨Y, rfl⟩ := Int.eq_ofNat_of_zero_le (show 0 ≤ y by omega)
  have hc := u8_lt c
  have hlt : c.toNat ^^^ Y < 256 := Nat.xor_lt_two_pow (n := 8) (by omega) (by omega)
  have hd : (UInt8.ofNat (c.toNat ^^^ Y)).toNat = c.toNat ^^^ Y := by rw [UInt8.toNat_ofNat']; omega
  refine ⟨UInt8.ofNat (c.toNat ^^^ Y), fun e => ?_, ?_, ?_⟩
  · have h1 : c.toNat ^^^ Y = c.toNat := by rw [← hd, e]
    have h2 := congrArg (c.toNat ^^^ ·) h1
    simp only [← Nat.xor_assoc, Nat.xor_self, Nat.zero_xor] at h2
    omega
  · rw [u8_xor_nat _ _ (by omega) (by omega), hd]
  · rw [hd, u8_xor_nat _ _ (by omega) (by omega), Nat.xor_assoc, Nat.xor_self, Nat.xor_zero]

/-- at % n + n, and that % n: where a byte is that is turned. -/
theorem turn_at (at_ : Int) (N : Nat) (h : 0 < N) : (-(N : Int) < at_.tmod N ∧ at_.tmod N < N) ∧ ∃ K : Nat, K < N ∧ (at_.tmod N + N) % N = (K : Int) ∧ (at_.tmod N + N).tmod N = (K : Int) := by
  have ht0 : -(N : Int) < at_.tmod N := by
    have := Int.lt_tmod_of_pos at_ (b := (N : Int)) (by omega)
    omega
  have ht1 : at_.tmod N < N := Int.tmod_lt_of_pos at_ (by omega)
  have h3 := Int.emod_nonneg (at_.tmod N + N) (b := (N : Int)) (by omega)
  have h4 := Int.emod_lt_of_pos (at_.tmod N + N) (b := (N : Int)) (by omega)
  have h5 := Int.tmod_eq_emod_of_nonneg (a := at_.tmod N + N) (b := (N : Int)) (by omega)
  exact ⟨⟨ht0, ht1⟩, ((at_.tmod N + N) % N).toNat, by omega, by omega, by omega⟩
end Go.Proofs.Ythhcchpjjppmjaa
