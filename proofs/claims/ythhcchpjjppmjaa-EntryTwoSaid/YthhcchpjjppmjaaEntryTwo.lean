/- EntryTwo's walk. -/
import Derived.Test.YthhcchpjjppmjaaEntryAlive
import Derived.Test.YthhcchpjjppmjaaEntryGet
import Derived.Test.YthhcchpjjppmjaaTurnB
namespace Go.Proofs.Ythhcchpjjppmjaa
open Go.RowKit

set_option maxRecDepth 100000 in
set_option maxHeartbeats 2000000 in
theorem ETwo_out (s t : Ent) (at_ y : Int) (hc : entOk s = false ∨ (entOk s = true ∧ entOk t = false) ∨ (entOk s = true ∧ entOk t = true ∧ y = 0)) (w : World) :
    Calls Try.prog 3 #[s.val, t.val, .int .i64 at_, .int .u8 y] w fun e w' => e = .returned (.bool true) ∧ Below w.heap.size w w' := by
  have HA := Lib.hid alive_is
  have H1 := Lib.hid (eput_is s)
  have H2 := Lib.hid (eput_is t)
  generalize entOk s = p at *
  generalize entOk t = q at *
  generalize eputS s = a at *
  generalize eputS t = b at *
  obtain ⟨q0, h0, e0, f0, g0⟩ := s
  obtain ⟨q1, h1, e1, f1, g1⟩ := t
  simp only [Ent.val] at *
  have hB : Hid (Below w.heap.size w _) := Lib.hid (((Below.refl w.heap.size w).alloc (Nat.le_refl _) (.cells #[.int .i64 q0, .int .i64 h0, .int .i64 e0, .int .i64 f0, .int .i64 g0] 23)).alloc (by simp) (.cells #[.int .i64 q1, .int .i64 h1, .int .i64 e1, .int .i64 f1, .int .i64 g1] 23))
  have R1 := Lib.hid ((Row5.made w (.int .i64 q0) (.int .i64 h0) (.int .i64 e0) (.int .i64 f0) (.int .i64 g0) 23).alloc (.cells #[.int .i64 q1, .int .i64 h1, .int .i64 e1, .int .i64 f1, .int .i64 g1] 23))
  have R2 := Lib.hid (Row5.made (w.alloc (.cells #[.int .i64 q0, .int .i64 h0, .int .i64 e0, .int .i64 f0, .int .i64 g0] 23)) (.int .i64 q1) (.int .i64 h1) (.int .i64 e1) (.int .i64 f1) (.int .i64 g1) 23)
  rw [size_alloc] at R2
  rcases hc with rfl | ⟨rfl, rfl⟩ | ⟨rfl, rfl, rfl⟩
  all_goals
    go_enter Try.func3, Try.ntmps3
    go_wp2_with (first
      | (go_at_call 5
         with_reducible refine (H1.out _).mono ?_
         rintro e w1 ⟨rfl, b1⟩
         obtain ⟨_, d0, d1, d2, d3, d4, _, _, _, _, _⟩ := R2.out.below b1
         replace hB := Lib.hid (below_next hB.out b1)
         clear b1 R2)
      | (go_at_call 5
         with_reducible refine (H2.out _).mono ?_
         rintro e w1 ⟨rfl, b1⟩
         replace hB := Lib.hid (below_next hB.out b1)
         clear b1)
      | (go_at_call 6
         refine (HA.out _).mono ?_
         rintro e w1 ⟨rfl, b1⟩
         replace hB := Lib.hid (below_next hB.out b1)
         clear b1))
    all_goals
      go_ret
      exact ⟨rfl, hB.out⟩

def eqE (q0 h0 e0 f0 g0 q1 h1 e1 f1 g1 : Int) : Bool := decide (q0 = q1 ∧ h0 = h1 ∧ e0 = e1 ∧ f0 = f1 ∧ g0 = g1)
theorem run_eqE (w : World) (q0 h0 e0 f0 g0 q1 h1 e1 f1 g1 : Int) : (binOp .eql 23 (.agg #[.int .i64 q0, .int .i64 h0, .int .i64 e0, .int .i64 f0, .int .i64 g0]) (.agg #[.int .i64 q1, .int .i64 h1, .int .i64 e1, .int .i64 f1, .int .i64 g1])).run Try.prog w = .ok (.bool (eqE q0 h0 e0 f0 g0 q1 h1 e1 f1 g1)) w := by
  unfold eqE
  go_simp
  by_cases a0 : q0 = q1 <;> by_cases a1 : h0 = h1 <;> by_cases a2 : e0 = e1 <;> by_cases a3 : f0 = f1 <;> by_cases a4 : g0 = g1 <;> simp [a0, a1, a2, a3, a4]
set_option maxRecDepth 100000 in
set_option maxHeartbeats 2000000 in
theorem ETwo_in (s t : Ent) (at_ y : Int) (hs : entOk s = true) (ht : entOk t = true) (hy0 : 1 ≤ y) (hy1 : y < 256) (w : World) :
    Calls Try.prog 3 #[s.val, t.val, .int .i64 at_, .int .u8 y] w fun e w' => e = .returned (.bool true) ∧ Below w.heap.size w w' := by
  have HA := Lib.hid alive_is
  have H1 := Lib.hid (eput_yes s hs)
  have H2 := Lib.hid (eput_yes t ht)
  have HS := Lib.hid (enB_size s)
  have HT := Lib.hid (fun (k : Nat) (hk : k < (enB s).size) (c : UInt8) (hc : c ≠ (enB s)[k]) (b : ByteArray) (hb : b.data.toList = (enB s).data.toList.set k c) => en_turned k hk c hc b hb)
  have HE := Lib.hid (en_two hs ht)
  generalize enB s = a at *
  generalize enB t = b at *
  obtain ⟨⟨ht0, ht1⟩, K, hKN, hK1, hK2⟩ := turn_at at_ 32 (by omega)
  rw [show ((32 : Nat) : Int) = 32 from rfl] at ht0 ht1 hK1 hK2
  have hKi : (K : Int) < 32 := by omega
  have hye : (y == 0) = false := by simp; omega
  obtain ⟨q0, h0, e0, f0, g0⟩ := s
  obtain ⟨q1, h1, e1, f1, g1⟩ := t
  simp only [Ent.val] at *
  have hB : Hid (Below w.heap.size w _) := Lib.hid (((Below.refl w.heap.size w).alloc (Nat.le_refl _) (.cells #[.int .i64 q0, .int .i64 h0, .int .i64 e0, .int .i64 f0, .int .i64 g0] 23)).alloc (by simp) (.cells #[.int .i64 q1, .int .i64 h1, .int .i64 e1, .int .i64 f1, .int .i64 g1] 23))
  have R1 := Lib.hid ((Row5.made w (.int .i64 q0) (.int .i64 h0) (.int .i64 e0) (.int .i64 f0) (.int .i64 g0) 23).alloc (.cells #[.int .i64 q1, .int .i64 h1, .int .i64 e1, .int .i64 f1, .int .i64 g1] 23))
  have R2 := Lib.hid (Row5.made (w.alloc (.cells #[.int .i64 q0, .int .i64 h0, .int .i64 e0, .int .i64 f0, .int .i64 g0] 23)) (.int .i64 q1) (.int .i64 h1) (.int .i64 e1) (.int .i64 f1) (.int .i64 g1) 23)
  rw [size_alloc] at R2
  have hqz : (a.toList == b.toList) = eqE q0 h0 e0 f0 g0 q1 h1 e1 f1 g1 := str_eqB (by
    unfold eqE
    rw [decide_eq_decide, HE.out]
    simp)
  have hez := fun u => run_eqE u q0 h0 e0 f0 g0 q1 h1 e1 f1 g1
  generalize eqE q0 h0 e0 f0 g0 q1 h1 e1 f1 g1 = z at *
  clear HE hs ht
  have hsz : ((a.size : Nat) : Int) = 32 := by rw [HS.out]; rfl
  go_enter Try.func3, Try.ntmps3
  go_wp2_with (first
      | (go_at_call 5
         with_reducible refine (H1.out _).mono ?_
         rintro e w1 ⟨rfl, b1⟩
         replace R1 := Lib.hid (R1.out.below b1)
         replace R2 := Lib.hid (R2.out.below b1)
         obtain ⟨_, d0, d1, d2, d3, d4, _, _, _, _, _⟩ := R2.out
         replace hB := Lib.hid (below_next hB.out b1)
         clear b1)
      | (go_at_call 5
         with_reducible refine (H2.out _).mono ?_
         rintro e w1 ⟨rfl, b1⟩
         replace R1 := Lib.hid (R1.out.below b1)
         replace R2 := Lib.hid (R2.out.below b1)
         replace hB := Lib.hid (below_next hB.out b1)
         clear b1)
      | (go_at_call 6
         refine (HA.out _).mono ?_
         rintro e w1 ⟨rfl, b1⟩
         replace R1 := Lib.hid (R1.out.below b1)
         replace R2 := Lib.hid (R2.out.below b1)
         obtain ⟨_, c0, c1, c2, c3, c4, _, _, _, _, _⟩ := R1.out
         obtain ⟨_, d0, d1, d2, d3, d4, _, _, _, _, _⟩ := R2.out
         replace hB := Lib.hid (below_next hB.out b1)
         clear b1
         obtain ⟨W2, cap, hcv, hcell, hfro, b2⟩ := bytes_made w1 a
         rw [HS.out] at hcv
         have hKs : K < a.size := by rw [HS.out]; exact hKN
         have hrng : W2.rangeAt w1.heap.size 0 (bcl a.data.toList) := fun j v hv => by
           have hj : j < a.size := by
             have := (List.getElem?_eq_some_iff.1 hv).1
             simpa [bcl] using this
           rw [Nat.zero_add, hcell j hj, ← hv]
           simp only [bcl, List.getElem?_map]
           rw [List.getElem?_eq_getElem (by rw [ba_len]; exact hj)]
           simp [ByteArray.getElem_eq_getElem_data]
         obtain ⟨d, hdc, hx1, hx2⟩ := xor_turn a[K] y hy0 hy1
         have HNO := Lib.hid (HT.out K hKs d hdc ⟨(a.data.toList.set K d).toArray⟩ (by simp))
         have hck := hcell K hKs
         have hfk := hfro K hKs
         have hrng3 := bcl_set (k := K) hrng d
         have hcv3 := conv_bcl _ w1.heap.size 32 cap _ (by rw [List.length_set, ba_len, HS.out]) hrng3
         have HG := Lib.hid (fun u => eget_is ⟨(a.data.toList.set K d).toArray⟩ (by show (a.data.toList.set K d).toArray.size ≤ _; rw [List.size_toArray, List.length_set, ba_len, HS.out]; unfold maxLen; omega) u)
         rw [HNO.out, egetS_no HNO.out, show entZ.val = .agg #[.int .i64 0, .int .i64 0, .int .i64 0, .int .i64 0, .int .i64 0] from rfl] at HG
         generalize (⟨(a.data.toList.set K d).toArray⟩ : ByteArray) = T at *
         replace hB := Lib.hid ((below_next hB.out b2).setCell (p := ⟨w1.heap.size, K, none⟩) hB.out.size (.int .u8 (d.toNat : Int)))
         clear hrng hrng3 hdc hcell hfro b2 HNO HT hx2 R1 R2)
      | (go_at_call 7
         refine (HG.out _).mono ?_
         rintro e w4 ⟨rfl, b4⟩
         replace hB := Lib.hid (below_next hB.out b4)
         clear b4))
  all_goals
    go_ret
    exact ⟨rfl, hB.out.alloc hB.out.size _⟩
theorem ETwo_walk (s t : Ent) (at_ y : Int) (hy0 : 0 ≤ y) (hy1 : y < 256) (w : World) :
    Calls Try.prog 3 #[s.val, t.val, .int .i64 at_, .int .u8 y] w fun e w' => e = .returned (.bool true) ∧ Below w.heap.size w w' := by
  cases hs : entOk s
  · exact ETwo_out s t at_ y (.inl hs) w
  cases ht : entOk t
  · exact ETwo_out s t at_ y (.inr (.inl ⟨hs, ht⟩)) w
  by_cases h : y = 0
  · exact ETwo_out s t at_ y (.inr (.inr ⟨hs, ht, h⟩)) w
  · exact ETwo_in s t at_ y hs ht (by omega) hy1 w
end Go.Proofs.Ythhcchpjjppmjaa
