/- SealTurned's walk. -/
import Derived.Test.YtcobncjdnljhdaaSealTwo
import Derived.Laws.IdiomStrings
import Derived.Deep.MidRow
namespace Go.Proofs.Ytcobncjdnljhdaa
open Go.RowKit

theorem bytes_made (w : World) (s : ByteArray) : ∃ (W2 : World) (cap : Nat), (convert 9 31 (.string s)).run Try.prog w = .ok (.slice (some ⟨w.heap.size, 0, none⟩) s.size cap) W2 ∧
    (∀ j (hj : j < s.size), W2.cell? ⟨w.heap.size, j, none⟩ = some (.int .u8 (s[j].toNat : Int))) ∧ (∀ j, j < s.size → W2.frozen? ⟨w.heap.size, j, none⟩ = false) ∧ Below w.heap.size w W2 := by
  refine ⟨_, _, run_bytes_of_string w 9 31 5 s (by kernel_rfl) (by kernel_rfl) (by kernel_rfl), ?_, ?_, ?_⟩
  · intro j hj
    have h := World.cell?_alloc_mark w.drew (bytesRow s (grownCap w s.size 0 5)) 5 ((bytesRow s (grownCap w s.size 0 5)).size, (bytesRow s (grownCap w s.size 0 5)).size + 1) j
    refine Eq.trans h ?_
    exact bytesRow_at s _ j hj
  · intro j hj
    have h := World.frozen?_alloc_mark w.drew (bytesRow s (grownCap w s.size 0 5)) 5 (bytesRow s (grownCap w s.size 0 5)).size ((bytesRow s (grownCap w s.size 0 5)).size + 1) j
    refine Eq.trans h ?_
    have : s.size ≤ (bytesRow s (grownCap w s.size 0 5)).size := by
      simp [bytesRow]
    simp
    omega
  · exact (Below.refl _ _).drew.alloc (Nat.le_refl _) _

def bcl (l : List UInt8) : List Value := l.map fun x => .int .u8 (x.toNat : Int)
theorem bcl_set {w : World} {B k : Nat} {l : List UInt8} (h : w.rangeAt B 0 (bcl l)) (d : UInt8) : (w.setCell ⟨B, k, none⟩ (.int .u8 (d.toNat : Int))).rangeAt B 0 (bcl (l.set k d)) := fun j u hu => by
  simp only [bcl, List.map_set, List.getElem?_set] at hu
  split at hu
  · rename_i e
    subst e
    split at hu
    · rename_i hk
      obtain rfl : Value.int .u8 (d.toNat : Int) = u := by simpa using hu
      have h0 := h k _ (List.getElem?_eq_getElem (l := bcl l) hk)
      simp only [Nat.zero_add] at h0 ⊢
      exact World.cell?_setCell_same _ _ _ h0
    · cases hu
  · rename_i e
    rw [World.cell?_setCell_other _ _ _ _ (by simp [e])]
    exact h j u hu
theorem conv_bcl (w : World) (B n cap : Nat) (l : List UInt8) (hn : l.length = n) (h : w.rangeAt B 0 (bcl l)) :
    (convert 31 9 (.slice (some ⟨B, 0, none⟩) n cap)).run Try.prog w = .ok (.string ⟨l.toArray⟩) w := by
  subst hn
  refine run_convert_bytes_back w 31 9 5 ⟨B, 0, none⟩ cap l (by kernel_rfl) (by kernel_rfl) (by kernel_rfl) fun j hj => ?_
  have := h j (.int .u8 (l[j].toNat : Int)) (by simp [bcl, hj])
  rw [Addr.add_mid]
  exact this
theorem xor_turn (c : UInt8) (y : Int) (hy0 : 1 ≤ y) (hy1 : y < 256) : ∃ d : UInt8, d ≠ c ∧ bits BinOp.xor .u8 (c.toNat : Int) y = (d.toNat : Int) ∧ bits BinOp.xor .u8 (d.toNat : Int) y = (c.toNat : Int) := by
  obtain ⟨Y, rfl⟩ := Int.eq_ofNat_of_zero_le (show 0 ≤ y by omega)
  have hc := u8_lt c
  have hlt : c.toNat ^^^ Y < 256 := Nat.xor_lt_two_pow (n := 8) (by omega) (by omega)
  have hd : (UInt8.ofNat (c.toNat ^^^ Y)).toNat = c.toNat ^^^ Y := by rw [UInt8.toNat_ofNat']; omega
  refine ⟨UInt8.ofNat (c.toNat ^^^ Y), fun e => ?_, ?_, ?_⟩
  · have h1 : c.toNat ^^^ Y = c.toNat := by rw [← hd, e]
    have h2 := congrArg (c.toNat ^^^ ·) h1
    simp only [← Nat.xor_assoc, Nat.xor_self, Nat.zero_xor] at h2
    omega
  · rw [u8_xor_nat _ _ (by omega) (by omega), hd]
  · rw [hd, u8_xor_nat _ _ (by omega) (by omega), Nat.xor_assoc, Nat.xor_self, Nat.xor_zero]

set_option maxRecDepth 100000 in
set_option maxHeartbeats 1000000 in
theorem Turned_in (b : ByteArray) (N : Nat) (at_ y : Int) (h0 : b.size ≤ 150) (h1 : b.size + 4 ≤ N) (h2 : N ≤ 200) (hy0 : 1 ≤ y) (hy1 : y < 256) (w : World) :
    Calls Try.prog 4 #[.string b, .int .i64 (N : Int), .int .i64 at_, .int .u8 y] w fun e w' => e = .returned (.bool true) ∧ Below w.heap.size w w' := by
  have HA := Lib.hid alive_is
  have hB := Below.refl w.heap.size w
  have e1 : sealS b N = sealB b N := if_pos ⟨by omega, by omega, by omega⟩
  have H1 := Lib.hid (fun w => Seal_is b N (by unfold maxLen; omega) w)
  rw [e1] at H1
  clear e1
  have s1 := sealB_size b N (by omega) (by omega)
  have HO := Lib.hid (sealB_opens b N).1
  have hn : (4 : Int) ≤ (N : Int) := by omega
  have hn2 : (N : Int) ≤ 200 := by omega
  have hbn : (b.size : Int) + 4 ≤ (N : Int) := by omega
  generalize sealB b N = s at *
  have HS := Lib.hid s1
  clear s1
  have ht0 : -(N : Int) < at_.tmod N := by
    have := Int.lt_tmod_of_pos at_ (b := (N : Int)) (by omega)
    omega
  have ht1 : at_.tmod N < N := Int.tmod_lt_of_pos at_ (by omega)
  have hK : ∃ K : Nat, K < N ∧ (at_.tmod N + N) % N = (K : Int) ∧ (at_.tmod N + N).tmod N = (K : Int) := by
    have h3 := Int.emod_nonneg (at_.tmod N + N) (b := (N : Int)) (by omega)
    have h4 := Int.emod_lt_of_pos (at_.tmod N + N) (b := (N : Int)) (by omega)
    have h5 := Int.tmod_eq_emod_of_nonneg (a := at_.tmod N + N) (b := (N : Int)) (by omega)
    exact ⟨((at_.tmod N + N) % N).toNat, by omega, by omega, by omega⟩
  obtain ⟨K, hKN, hK1, hK2⟩ := hK
  have hKi : (K : Int) < (N : Int) := by omega
  have hye : (y == 0) = false := by simp; omega
  go_enter Try.func4, Try.ntmps4
  go_wp2_with (first
    | (go_at_call 8; refine (HA.out _).mono ?_; rintro e w1 ⟨rfl, b1⟩; replace hB := below_next hB b1; clear b1))
  refine (H1.out _).mono ?_
  rintro e w2 ⟨rfl, b1⟩
  replace hB := below_next hB b1
  have HB2 := Lib.hid hB.size
  clear b1
  obtain ⟨W2, cap, hcv, hcell, hfro, b2⟩ := bytes_made w2 s
  rw [HS.out] at hcv
  have hKs : K < s.size := by rw [HS.out]; exact hKN
  have hrng : W2.rangeAt w2.heap.size 0 (bcl s.data.toList) := fun j v hv => by
    have hj : j < s.size := by
      have := (List.getElem?_eq_some_iff.1 hv).1
      simpa [bcl] using this
    rw [Nat.zero_add, hcell j hj, ← hv]
    simp only [bcl, List.getElem?_map]
    rw [List.getElem?_eq_getElem (by rw [ba_len]; exact hj)]
    simp [ByteArray.getElem_eq_getElem_data]
  obtain ⟨d, hdc, hx1, hx2⟩ := xor_turn s[K] y hy0 hy1
  have hno : opens ⟨(s.data.toList.set K d).toArray⟩ = false := turned_not s HO.out K hKs d hdc _ (by simp)
  have hck := hcell K hKs
  have hfk := hfro K hKs
  have hck3 : (W2.setCell ⟨w2.heap.size, K, none⟩ (.int .u8 (d.toNat : Int))).cell? ⟨w2.heap.size, K, none⟩ = some (.int .u8 (d.toNat : Int)) := World.cell?_setCell_same _ _ _ hck
  have hfk3 : (W2.setCell ⟨w2.heap.size, K, none⟩ (.int .u8 (d.toNat : Int))).frozen? ⟨w2.heap.size, K, none⟩ = false := by rw [World.frozen?_setCell]; exact hfk
  have hrng3 := bcl_set (k := K) hrng d
  have hcv3 := conv_bcl _ w2.heap.size N cap _ (by rw [List.length_set, ba_len, HS.out]) hrng3
  have hlt2 : w2.heap.size < (W2.setCell ⟨w2.heap.size, K, none⟩ (.int .u8 (d.toNat : Int))).heap.size := by
    have h1 : W2.heap.size ≤ (W2.setCell ⟨w2.heap.size, K, none⟩ (.int .u8 (d.toNat : Int))).heap.size := by simp [World.setCell]
    rcases Nat.lt_or_ge w2.heap.size W2.heap.size with h | h
    · omega
    · have : W2.cell? ⟨w2.heap.size, K, none⟩ = none := by simp [World.cell?, Array.getElem?_eq_none h]
      rw [this] at hck
      cases hck
  have hback : (s.data.toList.set K d).set K s[K] = s.data.toList := by
    have e : s[K] = s.data.toList[K]'(by rw [ba_len]; exact hKs) := by simp [ByteArray.getElem_eq_getElem_data]
    rw [List.set_set, e, List.set_getElem_self]
  have hB3 : Below w.heap.size w (W2.setCell ⟨w2.heap.size, K, none⟩ (.int .u8 (d.toNat : Int))) := (below_next hB b2).setCell hB.size _
  have H3 := Lib.hid (fun w => Open_is ⟨(s.data.toList.set K d).toArray⟩ (by show (s.data.toList.set K d).toArray.size ≤ _; rw [List.size_toArray, List.length_set, ba_len, HS.out]; omega) w)
  rw [hno] at H3
  have H4 := Lib.hid (fun w => Open_is s (by rw [HS.out]; omega) w)
  rw [HO.out] at H4
  have HK := Lib.hid (And.intro hrng3 (And.intro hback (And.intro hB3 (And.intro hlt2 (And.intro hck3 hfk3)))))
  clear hrng hrng3 hback hB3 hlt2 hck3 hfk3 hno hdc hcell hfro b2 hB
  generalize openS ⟨(s.data.toList.set K d).toArray⟩ = o1 at *
  generalize openS s = o2 at *
  go_wp2_with (first
    | (go_at_call 9; (with_reducible refine (H3.out _).mono ?_)))
  rintro e w4 ⟨rfl, b4⟩
  obtain ⟨hrng3, hback, hB3, hlt2, hck3, hfk3⟩ := HK.out
  have hck4 : w4.cell? ⟨w2.heap.size, K, none⟩ = some (.int .u8 (d.toNat : Int)) := (b4.cell (p := ⟨w2.heap.size, K, none⟩) hlt2).trans hck3
  have hfk4 : w4.frozen? ⟨w2.heap.size, K, none⟩ = false := (b4.frozen (p := ⟨w2.heap.size, K, none⟩) hlt2).trans hfk3
  have hrng4 : w4.rangeAt w2.heap.size 0 (bcl (s.data.toList.set K d)) := fun j v hv => (b4.cell (p := ⟨w2.heap.size, 0 + j, none⟩) hlt2).trans (hrng3 j v hv)
  have hrng5 := bcl_set (k := K) hrng4 s[K]
  rw [hback] at hrng5
  have hcv5 := conv_bcl _ w2.heap.size N cap _ (by rw [ba_len, HS.out]) hrng5
  have hss : (⟨s.data.toList.toArray⟩ : ByteArray) = s := ba_ext (by simp)
  rw [hss] at hcv5
  have hB5 := Lib.hid ((below_next hB3 b4).setCell (p := ⟨w2.heap.size, K, none⟩) HB2.out (.int .u8 (s[K].toNat : Int)))
  clear hrng3 hback hB3 hlt2 hck3 hfk3 hrng4 hrng5 b4 HK hss hck hfk hcv hcv3
  go_wp2_with (first
    | (go_at_call 9; (with_reducible refine (H4.out _).mono ?_); rintro e w6 ⟨rfl, b6⟩))
  go_ret
  exact ⟨rfl, below_next hB5.out b6⟩
set_option maxRecDepth 100000 in
set_option maxHeartbeats 1000000 in
theorem Turned_walk (b : ByteArray) (n at_ y : Int) (hb : b.size ≤ maxLen) (hy0 : 0 ≤ y) (hy1 : y < 256) (w : World) :
    Calls Try.prog 4 #[.string b, .int .i64 n, .int .i64 at_, .int .u8 y] w fun e w' => e = .returned (.bool true) ∧ Below w.heap.size w w' := by
  by_cases hin : b.size ≤ 150 ∧ (b.size : Int) + 4 ≤ n ∧ n ≤ 200 ∧ 1 ≤ y
  · obtain ⟨h0, h1, h2, h3⟩ := hin
    obtain ⟨N, rfl⟩ := Int.eq_ofNat_of_zero_le (show 0 ≤ n by omega)
    exact Turned_in b N at_ y h0 (by omega) (by omega) h3 hy1 w
  · have HA := Lib.hid alive_is
    unfold maxLen at hb
    have hB := Below.refl w.heap.size w
    have hc : 150 < b.size ∨ (b.size ≤ 150 ∧ n < (b.size : Int) + 4) ∨ (b.size ≤ 150 ∧ (b.size : Int) + 4 ≤ n ∧ 200 < n) ∨ (b.size ≤ 150 ∧ (b.size : Int) + 4 ≤ n ∧ n ≤ 200 ∧ y = 0) := by omega
    clear hin
    rcases hc with h | ⟨h, h1⟩ | ⟨h, h1, h2⟩ | ⟨h, h1, h2, rfl⟩
    all_goals
      go_enter Try.func4, Try.ntmps4
      go_wp2_with (go_at_call 8; refine (HA.out _).mono ?_; rintro e w1 ⟨rfl, b1⟩; replace hB := below_next hB b1; clear b1)
      all_goals
        go_ret
        exact ⟨rfl, hB⟩
end Go.Proofs.Ytcobncjdnljhdaa
