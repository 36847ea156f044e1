/- The law's helper alive: it answers true. -/
import Derived.Test.YtobgcengijnffaaSecAt
namespace Go.Proofs.Ytobgcengijnffaa
open Go.RowKit

set_option maxRecDepth 100000 in
set_option maxHeartbeats 400000 in
theorem alive_is (w : World) : Calls Try.prog 8 #[] w fun e w' => e = .returned (.bool true) ∧ Below w.heap.size w w' := by
  go_enter Try.func8, Try.ntmps8
  go_wp2_with (first
    | (go_at_call 9; refine (New_at 4 w.heap.size _ (Nat.le_refl _)).mono ?_; rintro e w1 ⟨p, rfl, h1, b1⟩; have A1 : At w.heap.size w1 p al0 := h1; clear h1)
    | (go_at_call 12; refine (Full_is _ (by decide) _).mono ?_; rintro e w' ⟨rfl, rfl⟩))
  have hc := Write_at 0 (pad32 (txt 97)) (pad32_size _) _ A1 al_m0 al_f0 al_w0 al_d0
  refine hc.mono ?_
  rintro e w2 ⟨rfl, h2, b2⟩
  have A2 : At w.heap.size w2 p al1 := h2
  have B2 := b1.trans b2
  clear h2 A1 b1 b2 hc
  go_wp2_with (go_at_call 12; refine (Full_is _ (by decide) _).mono ?_; rintro e w' ⟨rfl, rfl⟩)
  have hc := Write_at 1 (pad32 (txt 98)) (pad32_size _) _ A2 al_m1 al_f1 al_w1 al_d1
  refine hc.mono ?_
  rintro e w3 ⟨rfl, h3, b3⟩
  have A3 : At w.heap.size w3 p al2 := h3
  have B3 := B2.trans b3
  clear h3 A2 B2 b3 hc
  go_wp2_with fail
  have hc := Crash_lit _ 3 [0, 1] 2 A3 (by decide) al_o2
  refine hc.mono ?_
  rintro e w4 ⟨rfl, h4, b4⟩
  rw [al_l2]
  have A4 : At w.heap.size w4 p al3 := h4
  have B4 := B3.trans b4
  clear h4 A3 B3 b4 hc
  go_wp2_with (first
    | (go_at_call 30; refine (On_at _ A4).mono ?_; rintro e w' ⟨rfl, rfl⟩; rw [al_o3])
    | (go_at_call 19; refine (Power_at _ A4).mono ?_; rintro e w5 ⟨rfl, h5, b5⟩; rw [al_o3]; have A5 : At w.heap.size w5 p al4 := h5; have B5 := B4.trans b5; clear h5 A4 B4 b5)
    | (go_at_call 26; refine (Read_at _ _ A5).mono ?_; rintro e w' ⟨rfl, rfl⟩; first | rw [if_pos al_r0, al_r0, al_a0] | rw [if_pos al_r1, al_r1, al_a1])
    | (go_at_call 29; refine (Deeds_at _ A5).mono ?_; rintro e w' ⟨rfl, rfl⟩; rw [al_q4])
    | (go_at_call 27; refine (Len_at _ A5).mono ?_; rintro e w' ⟨rfl, rfl⟩; rw [al_n4])
    | (go_at_call 12; refine (Full_is _ (by decide) _).mono ?_; rintro e w' ⟨rfl, rfl⟩))
  go_ret
  exact ⟨rfl, B5⟩
end Go.Proofs.Ytobgcengijnffaa
