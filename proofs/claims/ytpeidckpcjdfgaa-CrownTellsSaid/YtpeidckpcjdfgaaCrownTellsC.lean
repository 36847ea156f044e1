/- CrownTells' walk, where the first crown may not be. -/
import Derived.Test.YtpeidckpcjdfgaaCrownTellsA
namespace Go.Proofs.Ytpeidckpcjdfgaa
open Go.RowKit

set_option maxRecDepth 100000 in
set_option maxHeartbeats 4000000 in
theorem Tells_no (s t : Sup) (at_ cb : Int) (raw : ByteArray) (hs : supOk s = false) (hraw : raw.size ≤ 100) (w : World) :
    Calls Try.prog 3 #[s.val, t.val, .int .i64 at_, .int .u8 cb, .string raw] w fun e w' => e = .returned (.bool true) ∧ Below w.heap.size w w' := by
  have HA := Lib.hid alive_is
  have H1 := Lib.hid (cput_no s hs)
  have H2 := Lib.hid (cput_is t)
  have HS := Lib.hid (rsuper_is s)
  rw [hs] at HS
  have HT := Lib.hid (rsuper_is t)
  have HRI := Lib.hid (right_is s)
  rw [hs] at HRI
  have HL := Lib.hid (place_is s)
  have HG := Lib.hid (cget_is ByteArray.empty (Nat.zero_le _))
  rw [empty_no, cgetS_no empty_no, show supZ.val = .agg #[.int .i64 0, .int .i64 0, .int .i64 0, .int .i64 0, .int .i64 0] from rfl] at HG
  have hr1 : (raw.size : Int) ≤ 100 := by omega
  have hbz : (cputS t).size ≤ 100 := by
    unfold cputS
    split
    · rw [crB_size]; omega
    · exact Nat.zero_le _
  have ha1 : ByteArray.empty.toList = [] := by rw [ByteArray.toList_eq]; rfl
  have HZ := Lib.hid (show ByteArray.empty.size ≤ 100 from Nat.zero_le _)
  clear hs
  generalize ByteArray.empty = a at *
  generalize cputS t = b at *
  generalize supOk t = q at *
  obtain ⟨q0, h0, e0, f0, g0⟩ := s
  obtain ⟨q1, h1, e1, f1, g1⟩ := t
  simp only [Sup.val] at *
  have HB := Lib.hid (((Below.refl w.heap.size w).alloc (Nat.le_refl _) (.cells #[.int .i64 q0, .int .i64 h0, .int .i64 e0, .int .i64 f0, .int .i64 g0] 23)).alloc (by simp) (.cells #[.int .i64 q1, .int .i64 h1, .int .i64 e1, .int .i64 f1, .int .i64 g1] 23))
  have R1 := Lib.hid ((Row5.made w (.int .i64 q0) (.int .i64 h0) (.int .i64 e0) (.int .i64 f0) (.int .i64 g0) 23).alloc (.cells #[.int .i64 q1, .int .i64 h1, .int .i64 e1, .int .i64 f1, .int .i64 g1] 23))
  have R2 := Lib.hid (Row5.made (w.alloc (.cells #[.int .i64 q0, .int .i64 h0, .int .i64 e0, .int .i64 f0, .int .i64 g0] 23)) (.int .i64 q1) (.int .i64 h1) (.int .i64 e1) (.int .i64 f1) (.int .i64 g1) 23)
  rw [size_alloc] at R2
  go_enter Try.func3, Try.ntmps3
  go_wp2_with (first
    | (go_at_call 4
       refine (HA.out _).mono ?_
       rintro e w1 ⟨rfl, b1⟩
       replace R1 := Lib.hid (R1.out.below b1)
       replace R2 := Lib.hid (R2.out.below b1)
       replace HB := Lib.hid (below_next HB.out b1)
       obtain ⟨_, c0, c1, c2, c3, c4, _, _, _, _, _⟩ := R1.out
       obtain ⟨_, d0, d1, d2, d3, d4, _, _, _, _, _⟩ := R2.out
       clear b1)
    | (go_at_call 5
       with_reducible refine (H1.out _).mono ?_
       rintro e w1 ⟨rfl, b1⟩
       replace R1 := Lib.hid (R1.out.below b1)
       replace R2 := Lib.hid (R2.out.below b1)
       replace HB := Lib.hid (below_next HB.out b1)
       obtain ⟨_, c0, c1, c2, c3, c4, _, _, _, _, _⟩ := R1.out
       obtain ⟨_, d0, d1, d2, d3, d4, _, _, _, _, _⟩ := R2.out
       clear b1)
    | (go_at_call 5
       with_reducible refine (H2.out _).mono ?_
       rintro e w1 ⟨rfl, b1⟩
       replace R1 := Lib.hid (R1.out.below b1)
       replace R2 := Lib.hid (R2.out.below b1)
       replace HB := Lib.hid (below_next HB.out b1)
       clear b1))
  have HK := Lib.hid (rows10 R1.out R2.out HB.out)
  clear R1 R2 HB c0 c1 c2 c3 c4 d0 d1 d2 d3 d4
  refine wp_region_held_drew (S := (fun u => u.cell? ⟨w.heap.size, 0, none⟩ = some (.int .i64 q0) ∧ u.cell? ⟨w.heap.size, 1, none⟩ = some (.int .i64 h0) ∧ u.cell? ⟨w.heap.size, 2, none⟩ = some (.int .i64 e0) ∧ u.cell? ⟨w.heap.size, 3, none⟩ = some (.int .i64 f0) ∧ u.cell? ⟨w.heap.size, 4, none⟩ = some (.int .i64 g0) ∧ u.cell? ⟨w.heap.size + 1, 0, none⟩ = some (.int .i64 q1) ∧ u.cell? ⟨w.heap.size + 1, 1, none⟩ = some (.int .i64 h1) ∧ u.cell? ⟨w.heap.size + 1, 2, none⟩ = some (.int .i64 e1) ∧ u.cell? ⟨w.heap.size + 1, 3, none⟩ = some (.int .i64 f1) ∧ u.cell? ⟨w.heap.size + 1, 4, none⟩ = some (.int .i64 g1) ∧ w.heap.size + 1 < u.heap.size ∧ Below w.heap.size w u)) (by kernel_rfl) (keep10 HK.out (Below.refl _ _).drew) (fun hHeld => ?_)
  refine wpAnyH_take (i := 0) (oi := { dst := some 49, op := Op.move (Operand.tmp 12), type := 4, pos := "law.go:24", after := #[], guard := none }) (v := ?_) rfl (by kernel_rfl) (by kernel_rfl) (by kernel_rfl) (fun _ _ _ h => h) (Or.inl ⟨by rfl, ?_⟩) (by assumption) ?_
  rotate_left
  · (intro u hSu; (try dsimp only at hSu); go_simp) <;> (try with_reducible rfl)
  try simp only [Act.put, List.setIfInBounds_toArray, List.set_cons_zero, List.set_cons_succ]
  refine wpAnyH_take (i := 1) (oi := { dst := some 50, op := Op.load 23 (Operand.tmp 5), type := 23, pos := "law.go:24", after := #[], guard := none }) (v := ?_) rfl (by kernel_rfl) (by kernel_rfl) (by kernel_rfl) (fun _ _ _ h => h) (Or.inl ⟨by rfl, ?_⟩) (by assumption) ?_
  rotate_left
  · (intro u hSu; (try dsimp only at hSu); go_simp) <;> (try with_reducible rfl)
  try simp only [Act.put, List.setIfInBounds_toArray, List.set_cons_zero, List.set_cons_succ]
  refine wpAnyH_ready (rs := [2]) (by kernel_rfl) (by simp) ?_
  refine AllReadyH.cons (o := { dst := some 51, op := Op.call { callee := Callee.value (Operand.func 6), args := #[Operand.tmp 50], argTypes := #[23] }, type := 4, pos := "law.go:24", after := #[{ on := 1, ground := Ground.data }], guard := none }) rfl (fun K hK => ?_) AllReadyH.nil
  go_simp
  go_wp2_with (go_at_call 6; refine (HS.out _).mono ?_; rintro e' w2 ⟨rfl, b2⟩)
  refine hK.out _ _ ?_ (fun hNew => ?_)
  · exact keep10 hHeld b2
  clear hK K b2 hHeld
  have hHeld := hNew
  clear hNew
  try simp only [Act.put, List.setIfInBounds_toArray, List.set_cons_zero, List.set_cons_succ]
  refine wpAnyH_take (i := 3) (oi := { dst := some 52, op := Op.binOp BinOp.neq 4 (Operand.tmp 49) (Operand.tmp 51) 4, type := 4, pos := "law.go:24", after := #[{ on := 0, ground := Ground.data }, { on := 2, ground := Ground.data }], guard := none }) (v := ?_) rfl (by kernel_rfl) (by kernel_rfl) (by kernel_rfl) (fun _ _ _ h => h) (Or.inl ⟨by rfl, ?_⟩) (by assumption) ?_
  rotate_left
  · (intro u hSu; (try dsimp only at hSu); go_simp) <;> (try with_reducible rfl)
  try simp only [Act.put, List.setIfInBounds_toArray, List.set_cons_zero, List.set_cons_succ]
  refine wpAnyH_take (i := 4) (oi := { dst := some 53, op := Op.move (Operand.tmp 52), type := 4, pos := "law.go:24", after := #[{ on := 3, ground := Ground.data }, { on := 2, ground := Ground.chain }], guard := none }) (v := ?_) rfl (by kernel_rfl) (by kernel_rfl) (by kernel_rfl) (fun _ _ _ h => h) (Or.inl ⟨by rfl, ?_⟩) (by assumption) ?_
  rotate_left
  · (intro u hSu; (try dsimp only at hSu); go_simp) <;> (try with_reducible rfl)
  try simp only [Act.put, List.setIfInBounds_toArray, List.set_cons_zero, List.set_cons_succ]
  refine wpAnyH_take (i := 5) (oi := { dst := some 54, op := Op.load 23 (Operand.tmp 5), type := 23, pos := "law.go:24", after := #[{ on := 4, ground := Ground.guard }], guard := some (4, false) }) (v := ?_) rfl (by kernel_rfl) (by kernel_rfl) (by kernel_rfl) (fun _ _ _ h => h) (Or.inl ⟨by rfl, ?_⟩) (by assumption) ?_
  rotate_left
  · (intro u hSu; (try dsimp only at hSu); go_simp) <;> (try with_reducible rfl)
  try simp only [Act.put, List.setIfInBounds_toArray, List.set_cons_zero, List.set_cons_succ]
  refine wpAnyH_take (i := 7) (oi := { dst := some 56, op := Op.move (Operand.tmp 12), type := 4, pos := "law.go:24", after := #[{ on := 4, ground := Ground.guard }], guard := some (4, false) }) (v := ?_) rfl (by kernel_rfl) (by kernel_rfl) (by kernel_rfl) (fun _ _ _ h => h) (Or.inl ⟨by rfl, ?_⟩) (by assumption) ?_
  rotate_left
  · (intro u hSu; (try dsimp only at hSu); go_simp) <;> (try with_reducible rfl)
  try simp only [Act.put, List.setIfInBounds_toArray, List.set_cons_zero, List.set_cons_succ]
  refine wpAnyH_ready (rs := [6]) (by kernel_rfl) (by simp) ?_
  refine AllReadyH.cons (o := { dst := some 55, op := Op.call { callee := Callee.value (Operand.func 7), args := #[Operand.tmp 54], argTypes := #[23] }, type := 4, pos := "law.go:24", after := #[{ on := 5, ground := Ground.data }, { on := 4, ground := Ground.chain }, { on := 4, ground := Ground.guard }], guard := some (4, false) }) rfl (fun K hK => ?_) AllReadyH.nil
  go_simp
  go_wp2_with (go_at_call 7; refine (HRI.out _).mono ?_; rintro e' w2 ⟨rfl, b2⟩)
  refine hK.out _ _ ?_ (fun hNew => ?_)
  · exact keep10 hHeld b2
  clear hK K b2 hHeld
  have hHeld := hNew
  clear hNew
  try simp only [Act.put, List.setIfInBounds_toArray, List.set_cons_zero, List.set_cons_succ]
  refine wpAnyH_take (i := 8) (oi := { dst := some 57, op := Op.binOp BinOp.neq 4 (Operand.tmp 55) (Operand.tmp 56) 4, type := 4, pos := "law.go:24", after := #[{ on := 6, ground := Ground.data }, { on := 7, ground := Ground.data }, { on := 4, ground := Ground.guard }], guard := some (4, false) }) (v := ?_) rfl (by kernel_rfl) (by kernel_rfl) (by kernel_rfl) (fun _ _ _ h => h) (Or.inl ⟨by rfl, ?_⟩) (by assumption) ?_
  rotate_left
  · (intro u hSu; (try dsimp only at hSu); go_simp) <;> (try with_reducible rfl)
  try simp only [Act.put, List.setIfInBounds_toArray, List.set_cons_zero, List.set_cons_succ]
  refine wpAnyH_take (i := 9) (oi := { dst := some 58, op := Op.pick (Operand.tmp 53) (Operand.const (Value.bool true)) (Operand.tmp 57), type := 4, pos := "law.go:24", after := #[{ on := 4, ground := Ground.data }, { on := 8, ground := Ground.data }], guard := none }) (v := ?_) rfl (by kernel_rfl) (by kernel_rfl) (by kernel_rfl) (fun _ _ _ h => h) (Or.inl ⟨by rfl, ?_⟩) (by assumption) ?_
  rotate_left
  · (intro u hSu; (try dsimp only at hSu); go_simp) <;> (try with_reducible rfl)
  try simp only [Act.put, List.setIfInBounds_toArray, List.set_cons_zero, List.set_cons_succ]
  refine wpAnyH_take (i := 10) (oi := { dst := some 59, op := Op.move (Operand.tmp 58), type := 4, pos := "law.go:24", after := #[{ on := 9, ground := Ground.data }, { on := 6, ground := Ground.chain }], guard := none }) (v := ?_) rfl (by kernel_rfl) (by kernel_rfl) (by kernel_rfl) (fun _ _ _ h => h) (Or.inl ⟨by rfl, ?_⟩) (by assumption) ?_
  rotate_left
  · (intro u hSu; (try dsimp only at hSu); go_simp) <;> (try with_reducible rfl)
  try simp only [Act.put, List.setIfInBounds_toArray, List.set_cons_zero, List.set_cons_succ]
  refine wpAnyH_take (i := 11) (oi := { dst := some 60, op := Op.move (Operand.tmp 14), type := 4, pos := "law.go:24", after := #[{ on := 10, ground := Ground.guard }], guard := some (10, false) }) (v := ?_) rfl (by kernel_rfl) (by kernel_rfl) (by kernel_rfl) (fun _ _ _ h => h) (Or.inl ⟨by rfl, ?_⟩) (by assumption) ?_
  rotate_left
  · (intro u hSu; (try dsimp only at hSu); go_simp) <;> (try with_reducible rfl)
  try simp only [Act.put, List.setIfInBounds_toArray, List.set_cons_zero, List.set_cons_succ]
  refine wpAnyH_take (i := 12) (oi := { dst := some 61, op := Op.load 23 (Operand.tmp 6), type := 23, pos := "law.go:24", after := #[{ on := 10, ground := Ground.guard }], guard := some (10, false) }) (v := ?_) rfl (by kernel_rfl) (by kernel_rfl) (by kernel_rfl) (fun _ _ _ h => h) (Or.inl ⟨by rfl, ?_⟩) (by assumption) ?_
  rotate_left
  · (intro u hSu; (try dsimp only at hSu); go_simp) <;> (try with_reducible rfl)
  try simp only [Act.put, List.setIfInBounds_toArray, List.set_cons_zero, List.set_cons_succ]
  refine wpAnyH_ready (rs := [13]) (by kernel_rfl) (by simp) ?_
  refine AllReadyH.cons (o := { dst := some 62, op := Op.call { callee := Callee.value (Operand.func 6), args := #[Operand.tmp 61], argTypes := #[23] }, type := 4, pos := "law.go:24", after := #[{ on := 12, ground := Ground.data }, { on := 10, ground := Ground.chain }, { on := 10, ground := Ground.guard }], guard := some (10, false) }) rfl (fun K hK => ?_) AllReadyH.nil
  go_simp
  go_wp2_with (go_at_call 6; refine (HT.out _).mono ?_; rintro e' w2 ⟨rfl, b2⟩)
  refine hK.out _ _ ?_ (fun hNew => ?_)
  · exact keep10 hHeld b2
  clear hK K b2 hHeld
  have hHeld := hNew
  clear hNew
  try simp only [Act.put, List.setIfInBounds_toArray, List.set_cons_zero, List.set_cons_succ]
  refine wpAnyH_take (i := 14) (oi := { dst := some 63, op := Op.binOp BinOp.neq 4 (Operand.tmp 60) (Operand.tmp 62) 4, type := 4, pos := "law.go:24", after := #[{ on := 11, ground := Ground.data }, { on := 13, ground := Ground.data }, { on := 10, ground := Ground.guard }], guard := some (10, false) }) (v := ?_) rfl (by kernel_rfl) (by kernel_rfl) (by kernel_rfl) (fun _ _ _ h => h) (Or.inl ⟨by rfl, ?_⟩) (by assumption) ?_
  rotate_left
  · (intro u hSu; (try dsimp only at hSu); go_simp) <;> (try with_reducible rfl)
  try simp only [Act.put, List.setIfInBounds_toArray, List.set_cons_zero, List.set_cons_succ]
  refine wpAnyH_take (i := 15) (oi := { dst := some 64, op := Op.pick (Operand.tmp 59) (Operand.const (Value.bool true)) (Operand.tmp 63), type := 4, pos := "law.go:24", after := #[{ on := 10, ground := Ground.data }, { on := 14, ground := Ground.data }], guard := none }) (v := ?_) rfl (by kernel_rfl) (by kernel_rfl) (by kernel_rfl) (fun _ _ _ h => h) (Or.inl ⟨by rfl, ?_⟩) (by assumption) ?_
  rotate_left
  · (intro u hSu; (try dsimp only at hSu); go_simp) <;> (try with_reducible rfl)
  try simp only [Act.put, List.setIfInBounds_toArray, List.set_cons_zero, List.set_cons_succ]
  refine wpAnyH_take (i := 16) (oi := { dst := some 65, op := Op.move (Operand.tmp 64), type := 4, pos := "law.go:24", after := #[{ on := 15, ground := Ground.data }, { on := 13, ground := Ground.chain }], guard := none }) (v := ?_) rfl (by kernel_rfl) (by kernel_rfl) (by kernel_rfl) (fun _ _ _ h => h) (Or.inl ⟨by rfl, ?_⟩) (by assumption) ?_
  rotate_left
  · (intro u hSu; (try dsimp only at hSu); go_simp) <;> (try with_reducible rfl)
  try simp only [Act.put, List.setIfInBounds_toArray, List.set_cons_zero, List.set_cons_succ]
  refine wpAnyH_take (i := 17) (oi := { dst := some 66, op := Op.move (Operand.tmp 12), type := 4, pos := "law.go:24", after := #[{ on := 16, ground := Ground.guard }], guard := some (16, false) }) (v := ?_) rfl (by kernel_rfl) (by kernel_rfl) (by kernel_rfl) (fun _ _ _ h => h) (Or.inl ⟨by rfl, ?_⟩) (by assumption) ?_
  rotate_left
  · (intro u hSu; (try dsimp only at hSu); go_simp) <;> (try with_reducible rfl)
  try simp only [Act.put, List.setIfInBounds_toArray, List.set_cons_zero, List.set_cons_succ]
  refine wpAnyH_take (i := 18) (oi := { dst := some 67, op := Op.move (Operand.tmp 66), type := 4, pos := "law.go:24", after := #[{ on := 17, ground := Ground.data }, { on := 16, ground := Ground.chain }, { on := 16, ground := Ground.guard }], guard := some (16, false) }) (v := ?_) rfl (by kernel_rfl) (by kernel_rfl) (by kernel_rfl) (fun _ _ _ h => h) (Or.inl ⟨by rfl, ?_⟩) (by assumption) ?_
  rotate_left
  · (intro u hSu; (try dsimp only at hSu); go_simp) <;> (try with_reducible rfl)
  try simp only [Act.put, List.setIfInBounds_toArray, List.set_cons_zero, List.set_cons_succ]
  refine wpAnyH_take (i := 19) (oi := { dst := some 68, op := Op.move (Operand.tmp 11), type := 9, pos := "law.go:24", after := #[{ on := 18, ground := Ground.guard }], guard := some (18, true) }) (v := undef) rfl (by kernel_rfl) (by kernel_rfl) (by kernel_rfl) (fun _ _ _ h => h) (Or.inr ⟨by rfl, rfl⟩) (by assumption) ?_
  try simp only [Act.put, List.setIfInBounds_toArray, List.set_cons_zero, List.set_cons_succ]
  refine wpAnyH_take (i := 20) (oi := { dst := some 69, op := Op.load 23 (Operand.tmp 5), type := 23, pos := "law.go:24", after := #[{ on := 18, ground := Ground.guard }], guard := some (18, true) }) (v := undef) rfl (by kernel_rfl) (by kernel_rfl) (by kernel_rfl) (fun _ _ _ h => h) (Or.inr ⟨by rfl, rfl⟩) (by assumption) ?_
  try simp only [Act.put, List.setIfInBounds_toArray, List.set_cons_zero, List.set_cons_succ]
  refine wpAnyH_take (i := 21) (oi := { dst := some 70, op := Op.call { callee := Callee.value (Operand.func 8), args := #[Operand.tmp 69], argTypes := #[23] }, type := 9, pos := "law.go:24", after := #[{ on := 20, ground := Ground.data }, { on := 18, ground := Ground.chain }, { on := 18, ground := Ground.guard }], guard := some (18, true) }) (v := undef) rfl (by kernel_rfl) (by kernel_rfl) (by kernel_rfl) (fun _ _ _ h => h) (Or.inr ⟨by rfl, rfl⟩) (by assumption) ?_
  try simp only [Act.put, List.setIfInBounds_toArray, List.set_cons_zero, List.set_cons_succ]
  refine wpAnyH_take (i := 22) (oi := { dst := some 71, op := Op.binOp BinOp.neq 9 (Operand.tmp 68) (Operand.tmp 70) 9, type := 4, pos := "law.go:24", after := #[{ on := 19, ground := Ground.data }, { on := 21, ground := Ground.data }, { on := 18, ground := Ground.guard }], guard := some (18, true) }) (v := undef) rfl (by kernel_rfl) (by kernel_rfl) (by kernel_rfl) (fun _ _ _ h => h) (Or.inr ⟨by rfl, rfl⟩) (by assumption) ?_
  try simp only [Act.put, List.setIfInBounds_toArray, List.set_cons_zero, List.set_cons_succ]
  refine wpAnyH_take (i := 23) (oi := { dst := some 72, op := Op.pick (Operand.tmp 67) (Operand.tmp 71) (Operand.const (Value.bool false)), type := 4, pos := "law.go:24", after := #[{ on := 18, ground := Ground.data }, { on := 22, ground := Ground.data }, { on := 16, ground := Ground.guard }], guard := some (16, false) }) (v := ?_) rfl (by kernel_rfl) (by kernel_rfl) (by kernel_rfl) (fun _ _ _ h => h) (Or.inl ⟨by rfl, ?_⟩) (by assumption) ?_
  rotate_left
  · (intro u hSu; (try dsimp only at hSu); go_simp) <;> (try with_reducible rfl)
  try simp only [Act.put, List.setIfInBounds_toArray, List.set_cons_zero, List.set_cons_succ]
  refine wpAnyH_take (i := 24) (oi := { dst := some 73, op := Op.pick (Operand.tmp 65) (Operand.const (Value.bool true)) (Operand.tmp 72), type := 4, pos := "law.go:24", after := #[{ on := 16, ground := Ground.data }, { on := 23, ground := Ground.data }], guard := none }) (v := ?_) rfl (by kernel_rfl) (by kernel_rfl) (by kernel_rfl) (fun _ _ _ h => h) (Or.inl ⟨by rfl, ?_⟩) (by assumption) ?_
  rotate_left
  · (intro u hSu; (try dsimp only at hSu); go_simp) <;> (try with_reducible rfl)
  try simp only [Act.put, List.setIfInBounds_toArray, List.set_cons_zero, List.set_cons_succ]
  refine wpAnyH_take (i := 25) (oi := { dst := some 74, op := Op.move (Operand.tmp 73), type := 4, pos := "law.go:24", after := #[{ on := 24, ground := Ground.data }, { on := 21, ground := Ground.chain }], guard := none }) (v := ?_) rfl (by kernel_rfl) (by kernel_rfl) (by kernel_rfl) (fun _ _ _ h => h) (Or.inl ⟨by rfl, ?_⟩) (by assumption) ?_
  rotate_left
  · (intro u hSu; (try dsimp only at hSu); go_simp) <;> (try with_reducible rfl)
  try simp only [Act.put, List.setIfInBounds_toArray, List.set_cons_zero, List.set_cons_succ]
  refine wpAnyH_take (i := 26) (oi := { dst := some 75, op := Op.move (Operand.tmp 12), type := 4, pos := "law.go:24", after := #[{ on := 25, ground := Ground.guard }], guard := some (25, false) }) (v := ?_) rfl (by kernel_rfl) (by kernel_rfl) (by kernel_rfl) (fun _ _ _ h => h) (Or.inl ⟨by rfl, ?_⟩) (by assumption) ?_
  rotate_left
  · (intro u hSu; (try dsimp only at hSu); go_simp) <;> (try with_reducible rfl)
  try simp only [Act.put, List.setIfInBounds_toArray, List.set_cons_zero, List.set_cons_succ]
  refine wpAnyH_take (i := 27) (oi := { dst := some 76, op := Op.unOp UnOp.not 4 (Operand.tmp 75), type := 4, pos := "law.go:24", after := #[{ on := 26, ground := Ground.data }, { on := 25, ground := Ground.guard }], guard := some (25, false) }) (v := ?_) rfl (by kernel_rfl) (by kernel_rfl) (by kernel_rfl) (fun _ _ _ h => h) (Or.inl ⟨by rfl, ?_⟩) (by assumption) ?_
  rotate_left
  · (intro u hSu; (try dsimp only at hSu); go_simp) <;> (try with_reducible rfl)
  try simp only [Act.put, List.setIfInBounds_toArray, List.set_cons_zero, List.set_cons_succ]
  refine wpAnyH_take (i := 28) (oi := { dst := some 77, op := Op.move (Operand.tmp 76), type := 4, pos := "law.go:24", after := #[{ on := 27, ground := Ground.data }, { on := 25, ground := Ground.chain }, { on := 25, ground := Ground.guard }], guard := some (25, false) }) (v := ?_) rfl (by kernel_rfl) (by kernel_rfl) (by kernel_rfl) (fun _ _ _ h => h) (Or.inl ⟨by rfl, ?_⟩) (by assumption) ?_
  rotate_left
  · (intro u hSu; (try dsimp only at hSu); go_simp) <;> (try with_reducible rfl)
  try simp only [Act.put, List.setIfInBounds_toArray, List.set_cons_zero, List.set_cons_succ]
  refine wpAnyH_take (i := 29) (oi := { dst := some 78, op := Op.move (Operand.tmp 11), type := 9, pos := "law.go:24", after := #[{ on := 28, ground := Ground.guard }], guard := some (28, true) }) (v := ?_) rfl (by kernel_rfl) (by kernel_rfl) (by kernel_rfl) (fun _ _ _ h => h) (Or.inl ⟨by rfl, ?_⟩) (by assumption) ?_
  rotate_left
  · (intro u hSu; (try dsimp only at hSu); go_simp) <;> (try with_reducible rfl)
  try simp only [Act.put, List.setIfInBounds_toArray, List.set_cons_zero, List.set_cons_succ]
  refine wpAnyH_take (i := 30) (oi := { dst := some 79, op := Op.binOp BinOp.neq 9 (Operand.tmp 78) (Operand.const (Value.string { data := #[] })) 9, type := 4, pos := "law.go:24", after := #[{ on := 29, ground := Ground.data }, { on := 28, ground := Ground.guard }], guard := some (28, true) }) (v := ?_) rfl (by kernel_rfl) (by kernel_rfl) (by kernel_rfl) (fun _ _ _ h => h) (Or.inl ⟨by rfl, ?_⟩) (by assumption) ?_
  rotate_left
  · (intro u hSu; (try dsimp only at hSu); go_simp) <;> (try with_reducible rfl)
  try simp only [Act.put, List.setIfInBounds_toArray, List.set_cons_zero, List.set_cons_succ]
  refine wpAnyH_take (i := 31) (oi := { dst := some 80, op := Op.pick (Operand.tmp 77) (Operand.tmp 79) (Operand.const (Value.bool false)), type := 4, pos := "law.go:24", after := #[{ on := 28, ground := Ground.data }, { on := 30, ground := Ground.data }, { on := 25, ground := Ground.guard }], guard := some (25, false) }) (v := ?_) rfl (by kernel_rfl) (by kernel_rfl) (by kernel_rfl) (fun _ _ _ h => h) (Or.inl ⟨by rfl, ?_⟩) (by assumption) ?_
  rotate_left
  · (intro u hSu; (try dsimp only at hSu); go_simp) <;> (try with_reducible rfl)
  try simp only [Act.put, List.setIfInBounds_toArray, List.set_cons_zero, List.set_cons_succ]
  refine wpAnyH_take (i := 32) (oi := { dst := some 81, op := Op.pick (Operand.tmp 74) (Operand.const (Value.bool true)) (Operand.tmp 80), type := 4, pos := "law.go:24", after := #[{ on := 25, ground := Ground.data }, { on := 31, ground := Ground.data }], guard := none }) (v := ?_) rfl (by kernel_rfl) (by kernel_rfl) (by kernel_rfl) (fun _ _ _ h => h) (Or.inl ⟨by rfl, ?_⟩) (by assumption) ?_
  rotate_left
  · (intro u hSu; (try dsimp only at hSu); go_simp) <;> (try with_reducible rfl)
  try simp only [Act.put, List.setIfInBounds_toArray, List.set_cons_zero, List.set_cons_succ]
  refine wpAnyH_take (i := 33) (oi := { dst := some 82, op := Op.move (Operand.tmp 81), type := 4, pos := "law.go:24", after := #[{ on := 32, ground := Ground.data }, { on := 28, ground := Ground.chain }], guard := none }) (v := ?_) rfl (by kernel_rfl) (by kernel_rfl) (by kernel_rfl) (fun _ _ _ h => h) (Or.inl ⟨by rfl, ?_⟩) (by assumption) ?_
  rotate_left
  · (intro u hSu; (try dsimp only at hSu); go_simp) <;> (try with_reducible rfl)
  try simp only [Act.put, List.setIfInBounds_toArray, List.set_cons_zero, List.set_cons_succ]
  refine wpAnyH_take (i := 34) (oi := { dst := some 83, op := Op.load 23 (Operand.tmp 5), type := 23, pos := "law.go:24", after := #[{ on := 33, ground := Ground.guard }], guard := some (33, false) }) (v := ?_) rfl (by kernel_rfl) (by kernel_rfl) (by kernel_rfl) (fun _ _ _ h => h) (Or.inl ⟨by rfl, ?_⟩) (by assumption) ?_
  rotate_left
  · (intro u hSu; (try dsimp only at hSu); go_simp) <;> (try with_reducible rfl)
  try simp only [Act.put, List.setIfInBounds_toArray, List.set_cons_zero, List.set_cons_succ]
  refine wpAnyH_take (i := 36) (oi := { dst := some 85, op := Op.fieldAddr 23 (Operand.tmp 5) 0, type := 0, pos := "law.go:24", after := #[{ on := 33, ground := Ground.guard }], guard := some (33, false) }) (v := ?_) rfl (by kernel_rfl) (by kernel_rfl) (by kernel_rfl) (fun _ _ _ h => h) (Or.inl ⟨by rfl, ?_⟩) (by assumption) ?_
  rotate_left
  · (intro u hSu; (try dsimp only at hSu); go_simp) <;> (try with_reducible rfl)
  try simp only [Act.put, List.setIfInBounds_toArray, List.set_cons_zero, List.set_cons_succ]
  refine wpAnyH_take (i := 37) (oi := { dst := some 86, op := Op.load 3 (Operand.tmp 85), type := 3, pos := "law.go:24", after := #[{ on := 36, ground := Ground.data }, { on := 33, ground := Ground.guard }], guard := some (33, false) }) (v := ?_) rfl (by kernel_rfl) (by kernel_rfl) (by kernel_rfl) (fun _ _ _ h => h) (Or.inl ⟨by rfl, ?_⟩) (by assumption) ?_
  rotate_left
  · (intro u hSu; (try dsimp only at hSu); go_simp) <;> (try with_reducible rfl)
  try simp only [Act.put, List.setIfInBounds_toArray, List.set_cons_zero, List.set_cons_succ]
  refine wpAnyH_take (i := 38) (oi := { dst := some 87, op := Op.binOp BinOp.and 3 (Operand.tmp 86) (Operand.const (Value.int IntKind.i64 1)) 3, type := 3, pos := "law.go:24", after := #[{ on := 37, ground := Ground.data }, { on := 33, ground := Ground.guard }], guard := some (33, false) }) (v := ?_) rfl (by kernel_rfl) (by kernel_rfl) (by kernel_rfl) (fun _ _ _ h => h) (Or.inl ⟨by rfl, ?_⟩) (by assumption) ?_
  rotate_left
  · (intro u hSu; (try dsimp only at hSu); go_simp) <;> (try with_reducible rfl)
  try simp only [Act.put, List.setIfInBounds_toArray, List.set_cons_zero, List.set_cons_succ]
  refine wpAnyH_ready (rs := [35]) (by kernel_rfl) (by simp) ?_
  refine AllReadyH.cons (o := { dst := some 84, op := Op.call { callee := Callee.value (Operand.func 9), args := #[Operand.tmp 83], argTypes := #[23] }, type := 3, pos := "law.go:24", after := #[{ on := 34, ground := Ground.data }, { on := 33, ground := Ground.chain }, { on := 33, ground := Ground.guard }], guard := some (33, false) }) rfl (fun K hK => ?_) AllReadyH.nil
  go_simp
  go_wp2_with (go_at_call 9; refine (HL.out _).mono ?_; rintro e' w2 ⟨rfl, b2⟩)
  refine hK.out _ _ ?_ (fun hNew => ?_)
  · exact keep10 hHeld b2
  clear hK K b2 hHeld
  have hHeld := hNew
  clear hNew
  try simp only [Act.put, List.setIfInBounds_toArray, List.set_cons_zero, List.set_cons_succ]
  refine wpAnyH_take (i := 39) (oi := { dst := some 88, op := Op.binOp BinOp.neq 3 (Operand.tmp 84) (Operand.tmp 87) 3, type := 4, pos := "law.go:24", after := #[{ on := 35, ground := Ground.data }, { on := 38, ground := Ground.data }, { on := 33, ground := Ground.guard }], guard := some (33, false) }) (v := ?_) rfl (by kernel_rfl) (by kernel_rfl) (by kernel_rfl) (fun _ _ _ h => h) (Or.inl ⟨by rfl, ?_⟩) (by assumption) ?_
  rotate_left
  · (intro u hSu; (try dsimp only at hSu); go_simp) <;> (try with_reducible rfl)
  try simp only [Act.put, List.setIfInBounds_toArray, List.set_cons_zero, List.set_cons_succ]
  refine wpAnyH_take (i := 40) (oi := { dst := some 89, op := Op.pick (Operand.tmp 82) (Operand.const (Value.bool true)) (Operand.tmp 88), type := 4, pos := "law.go:24", after := #[{ on := 33, ground := Ground.data }, { on := 39, ground := Ground.data }], guard := none }) (v := ?_) rfl (by kernel_rfl) (by kernel_rfl) (by kernel_rfl) (fun _ _ _ h => h) (Or.inl ⟨by rfl, ?_⟩) (by assumption) ?_
  rotate_left
  · (intro u hSu; (try dsimp only at hSu); go_simp) <;> (try with_reducible rfl)
  try simp only [Act.put, List.setIfInBounds_toArray, List.set_cons_zero, List.set_cons_succ]
  refine wpAnyH_done (by kernel_rfl) ?_ _
  have HK2 := Lib.hid hHeld
  clear hHeld HK HS HT HRI HL HA H1 H2
  go_wp2_with (first
    | (go_at_call 10
       refine (HG.out _).mono ?_
       rintro e w1 ⟨rfl, b1⟩
       have HB3 := Lib.hid (keep10 HK2.out b1).2.2.2.2.2.2.2.2.2.2.2
       clear b1 HK2))
  have HP := Lib.hid (And.intro (show TextsAt ((w1.alloc (.cells #[.int .i64 0, .int .i64 0, .int .i64 0, .int .i64 0, .int .i64 0] 23)).alloc (.cells #[.string a, .string b, .string b, .string a, .string a, .string b, .string b, .string a, .string raw, .string a, .string raw, .string a] 33)) (w1.alloc (.cells #[.int .i64 0, .int .i64 0, .int .i64 0, .int .i64 0, .int .i64 0] 23)).heap.size [a, b, b, a, a, b, b, a, raw, a, raw, a] from TextsAt.made _ [a, b, b, a, a, b, b, a, raw, a, raw, a] 33) (bel_alloc (bel_alloc HB3.out (.cells #[.int .i64 0, .int .i64 0, .int .i64 0, .int .i64 0, .int .i64 0] 23)) (.cells #[.string a, .string b, .string b, .string a, .string a, .string b, .string b, .string a, .string raw, .string a, .string raw, .string a] 33)))
  rw [size_alloc] at HP
  have HL := Lib.hid (small12 HZ.out hbz HZ.out hraw)
  have HGR := Lib.hid (cget_is raw (by unfold maxLen; omega))
  have HCR := Lib.hid (rcrowned_is raw (by omega))
  generalize [a, b, b, a, a, b, b, a, raw, a, raw, a] = L at HP HL
  generalize w1.heap.size + 1 = P at *
  clear HB3 HG ha1
  go_loopw [150] (fun i wr => ∃ k : Nat, k ≤ 6 ∧ i = .int .i64 (k : Int) ∧ TextsAt wr P L ∧ Below w.heap.size w wr) (fun i _ => 6 - (intOf i).toNat)
  case atStart => exact ⟨0, Nat.zero_le _, rfl, HP.out.1, HP.out.2⟩
  case round =>
    clear HP
    obtain ⟨k, hk, rfl, hT, hW⟩ := hrel
    by_cases hlt : k < 6
    · as_aux_lemma =>
      have hi : (k : Int) < 6 := by omega
      obtain ⟨xx, hx, hxs⟩ := HL.out (k * 2) (by omega)
      obtain ⟨yy, hy, hys⟩ := HL.out (k * 2 + 1) (by omega)
      have r0 := hT.2 _ _ hx
      have r1 := hT.2 _ _ hy
      have HN := Lib.hid (newer_is xx yy (by unfold maxLen; omega) (by unfold maxLen; omega))
      have HM := Lib.hid (rnewer_is xx yy (by omega) (by omega))
      have HT := Lib.hid (And.intro hT hW)
      clear hT hW hx hy hxs hys HGR HCR HL
      generalize newS xx yy = z at *
      generalize newN xx yy = nn at *
      generalize (crIs xx || crIs yy) = bb at *
      rw [show z.val = .agg #[.int .i64 z.q, .int .i64 z.h, .int .i64 z.e, .int .i64 z.f, .int .i64 z.g] from rfl] at HN HM
      have hnz := fun u => run_ne5 u z.q z.h z.e z.f z.g
      go_wp2_with (first
        | (go_at_call 11
           refine (HN.out _).mono ?_
           rintro e w2 ⟨rfl, b2⟩
           have T2 := Lib.hid (And.intro ((HT.out.1.below (bel_self _ (.cells #[.string xx, .string yy] 33))).below b2) (below_next (bel_alloc HT.out.2 (.cells #[.string xx, .string yy] 33)) b2))
           obtain ⟨l2, p0, p1⟩ := (((Pl2.made wr xx yy 33).below b2).below (bel_self _ (.cells #[.int .i64 z.q, .int .i64 z.h, .int .i64 z.e, .int .i64 z.f, .int .i64 z.g] 23)))
           clear b2)
        | (go_at_call 12
           refine (HM.out _).mono ?_
           rintro e w3 ⟨rfl, b3⟩
           have T3 := Lib.hid (And.intro (((T2.out.1.below (bel_self _ (.cells #[.int .i64 z.q, .int .i64 z.h, .int .i64 z.e, .int .i64 z.f, .int .i64 z.g] 23))).below b3).below (bel_self _ (.cells #[.int .i64 z.q, .int .i64 z.h, .int .i64 z.e, .int .i64 z.f, .int .i64 z.g] 23))) (bel_alloc (below_next (bel_alloc T2.out.2 (.cells #[.int .i64 z.q, .int .i64 z.h, .int .i64 z.e, .int .i64 z.f, .int .i64 z.g] 23)) b3) (.cells #[.int .i64 z.q, .int .i64 z.h, .int .i64 z.e, .int .i64 z.f, .int .i64 z.g] 23)))
           obtain ⟨_, y0, y1, y2, y3, y4, _, _, _, _, _⟩ := ((Row5.laid b3).1.alloc (.cells #[.int .i64 z.q, .int .i64 z.h, .int .i64 z.e, .int .i64 z.f, .int .i64 z.g] 23))
           clear b3))
      exact ⟨⟨k + 1, by omega, by go_num, T3.out.1, T3.out.2⟩, by simp [intOf]; omega⟩
    · as_aux_lemma =>
      obtain rfl : k = 6 := by omega
      have HT := Lib.hid hW
      clear hlt hk hT hW HL
      generalize cgetS raw = z at *
      generalize crIs raw = bb at *
      rw [show z.val = .agg #[.int .i64 z.q, .int .i64 z.h, .int .i64 z.e, .int .i64 z.f, .int .i64 z.g] from rfl] at HGR HCR
      have hez := fun u => run_eq5s u z.q z.h z.e z.f z.g
      go_wp2_with (first
        | (go_at_call 10
           refine (HGR.out _).mono ?_
           rintro e w2 ⟨rfl, b2⟩
           have T2 := Lib.hid (bel_alloc (below_next HT.out b2) (.cells #[.int .i64 z.q, .int .i64 z.h, .int .i64 z.e, .int .i64 z.f, .int .i64 z.g] 23))
           clear b2)
        | (go_at_call 13
           refine (HCR.out _).mono ?_
           rintro e w3 ⟨rfl, b3⟩
           have T3 := Lib.hid (bel_alloc (below_next T2.out b3) (.cells #[.int .i64 z.q, .int .i64 z.h, .int .i64 z.e, .int .i64 z.f, .int .i64 z.g] 23))
           obtain ⟨_, y0, y1, y2, y3, y4, _, _, _, _, _⟩ := ((Row5.laid b3).1.alloc (.cells #[.int .i64 z.q, .int .i64 z.h, .int .i64 z.e, .int .i64 z.f, .int .i64 z.g] 23))
           clear b3))
      all_goals
        go_ret
        exact ⟨rfl, T3.out⟩
end Go.Proofs.Ytpeidckpcjdfgaa
