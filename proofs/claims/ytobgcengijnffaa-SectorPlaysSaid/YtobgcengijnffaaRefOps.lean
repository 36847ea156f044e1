/- The document's own disk: may, Power, Read, Arm by their contracts. -/
import Derived.Test.YtobgcengijnffaaRefMem
namespace Go.Proofs.Ytobgcengijnffaa
open Go.RowKit

theorem GoesR.of {z : RLay} {w w' : World} {R : Rsk} (h : IsR w' z R) (o : Only z.foot w w') : GoesR z w R w' := ⟨z, rfl, h, fun _ q => .inl q, o⟩
theorem GoesR.refl {z : RLay} {w : World} {R : Rsk} (h : IsR w z R) : GoesR z w R w := GoesR.of h (Only.refl _ _)
theorem GoesR.fold {z z1 : RLay} {w w1 w2 : World} {R2 : Rsk} (hp : z1.p = z.p) (hf : ∀ b, z1.foot b → z.foot b ∨ w.heap.size ≤ b) (ho : Only z.foot w w1) (g : GoesR z1 w1 R2 w2) : GoesR z w R2 w2 := by
  obtain ⟨y2, hp2, hi2, hf2, ho2⟩ := g
  refine ⟨y2, hp2.trans hp, hi2, fun b q => ?_, ho.trans ho2 fun i hi q => ?_⟩
  · rcases hf2 b q with q | q
    · exact hf b q
    · exact .inr (Nat.le_trans ho.size q)
  · rcases hf i q with q | q
    · exact q
    · omega
theorem Only.foot_r {z : RLay} {w : World} (k : Nat) (v : Value) : Only z.foot w (w.setCell ⟨z.p, k, none⟩ v) := (Only.refl _ _).setCell (.inl (.inl rfl)) _

/-- Does the power go at this deed? -/
def Rsk.goes (R : Rsk) : Bool := R.arm && R.n == 0
/-- Behind 'may'. -/
def Rsk.dec (R : Rsk) : Rsk := { R with n := wrap64 (R.n - 1) }

set_option maxHeartbeats 1000000 in
theorem rmay_off (z : RLay) (R : Rsk) (w : World) (h : IsR w z R) (hon : R.on = false) :
    Calls Try.prog 36 #[.pointer (some ⟨z.p, 0, none⟩)] w fun e w' => e = .returned (.tuple #[.int .i64 3, .bool false]) ∧ w' = w := by
  have c2 := h.c2
  rw [hon] at c2
  clear h hon
  go_enter Try.func36, Try.ntmps36
  go_wp2
  go_ret2
  exact ⟨rfl, rfl⟩

set_option maxHeartbeats 1000000 in
theorem rmay_on (z : RLay) (R : Rsk) (w : World) (h : IsR w z R) (hon : R.on = true) :
    Calls Try.prog 36 #[.pointer (some ⟨z.p, 0, none⟩)] w fun e w' => e = .returned (.tuple #[.int .i64 0, .bool R.goes]) ∧ IsR w' z R.dec ∧ Only z.foot w w' := by
  have c2 := h.c2
  rw [hon] at c2
  have c3 := h.c3
  have c4 := h.c4
  have f4 := h.fz 4 (by omega)
  have H := Lib.hid h
  cases ha : R.arm
  · rw [ha] at c3
    have HG := Lib.hid (show R.goes = false by unfold Rsk.goes; rw [ha]; rfl)
    clear h hon ha
    go_enter Try.func36, Try.ntmps36
    go_wp2
    go_ret2
    rw [HG.out]
    exact ⟨rfl, H.out.set_cell 4 _ R.dec rfl rfl rfl rfl, Only.foot_r _ _⟩
  · rw [ha] at c3
    cases hn : (R.n == 0)
    · have HG := Lib.hid (show R.goes = false by unfold Rsk.goes; rw [ha, hn]; rfl)
      clear h hon ha
      go_enter Try.func36, Try.ntmps36
      go_wp2
      go_ret2
      rw [HG.out]
      exact ⟨rfl, H.out.set_cell 4 _ R.dec rfl rfl rfl rfl, Only.foot_r _ _⟩
    · have HG := Lib.hid (show R.goes = true by unfold Rsk.goes; rw [ha, hn]; rfl)
      clear h hon ha
      go_enter Try.func36, Try.ntmps36
      go_wp2
      go_ret2
      rw [HG.out]
      exact ⟨rfl, H.out.set_cell 4 _ R.dec rfl rfl rfl rfl, Only.foot_r _ _⟩

set_option maxHeartbeats 1000000 in
theorem rPower_is (z : RLay) (R : Rsk) (w : World) (h : IsR w z R) :
    Calls Try.prog 20 #[.pointer (some ⟨z.p, 0, none⟩)] w fun e w' => e = .returned (.bool (!R.on)) ∧ GoesR z w { R with on := true } w' := by
  have c2 := h.c2
  have f2 := h.fz 2 (by omega)
  have H := Lib.hid h
  clear h
  go_enter Try.func20, Try.ntmps20
  go_wp2
  go_ret
  exact ⟨rfl, GoesR.of (H.out.set_cell 2 _ { R with on := true } rfl rfl rfl rfl) (Only.foot_r _ _)⟩

set_option maxHeartbeats 1000000 in
theorem rArm_is (z : RLay) (R : Rsk) (w : World) (n : Int) (a : Option Addr) (kl : List Int) (c : Nat) (h : IsR w z R) (hk : IntsAt w a kl) (hkl : kl.length < 2 ^ 39) :
    Calls Try.prog 22 #[.pointer (some ⟨z.p, 0, none⟩), .int .i64 n, .slice a kl.length c] w fun e w' => e = .returned (.tuple #[]) ∧ GoesR z w { R with arm := decide (0 ≤ n), n := n, keep := kl } w' := by
  obtain ⟨i0, hi, hz0, hz1, hz2⟩ := info_parts intInfo
  have HI := Lib.hid (And.intro hi (And.intro hz0 (And.intro hz1 hz2)))
  clear hi hz0 hz1 hz2
  have H := Lib.hid (And.intro h hk)
  clear h hk
  go_enter Try.func22, Try.ntmps22
  go_wp2_with (first
    | (refine wpList_append_copy rfl (.tmp 12) 29 rfl 3 i0 _ 1 8 Try.underlying29 HI.out.1 HI.out.2.1 HI.out.2.2.1 HI.out.2.2.2 rfl (by omega) (by omega) a kl.length c (kl.map (Value.int .i64)) rfl (by
         intro j u hu
         rw [List.getElem?_map] at hu
         obtain ⟨x, hx, rfl⟩ := Option.map_eq_some_iff.1 hu
         obtain ⟨b, q1, _, q3⟩ := H.out.2 j x hx
         exact ⟨b, q1, q3⟩) (by simp) (by intro u hu; obtain ⟨x, _, rfl⟩ := List.mem_map.1 hu; rfl) (by omega) ?_
       intro a' c' w1 b1 C1
       have I1 := H.out.1.below b1
       have c3 := I1.c3
       have c4 := I1.c4
       have c5 := I1.c5
       have f3 := I1.fz 3 (by omega)
       have f4 := I1.fz 4 (by omega)
       have f5 := I1.fz 5 (by omega)
       have HX := Lib.hid (And.intro I1 (And.intro b1 C1))
       clear I1 b1 C1))
  refine bodyPost_end (results_none rfl _ _ _) rfl ?_
  obtain ⟨I1, b1, C1⟩ := HX.out
  have I2 := I1.set_cell 3 (.bool (decide (0 ≤ n))) { R with arm := decide (0 ≤ n) } rfl rfl rfl rfl
  have I3 := I2.set_cell 4 (.int .i64 n) { R with arm := decide (0 ≤ n), n := n } rfl rfl rfl rfl
  have hsz : ((w1.setCell ⟨z.p, 3, none⟩ (.bool (decide (0 ≤ n)))).setCell ⟨z.p, 4, none⟩ (.int .i64 n)).heap.size = w1.heap.size := by rw [size_setCell', size_setCell']
  have C3 : Cloned ((w1.setCell ⟨z.p, 3, none⟩ (.bool (decide (0 ≤ n)))).setCell ⟨z.p, 4, none⟩ (.int .i64 n)) w.heap.size ((w1.setCell ⟨z.p, 3, none⟩ (.bool (decide (0 ≤ n)))).setCell ⟨z.p, 4, none⟩ (.int .i64 n)).heap.size 3 1 a' kl.length c' (kl.map (Value.int .i64)) := by
    rw [hsz]
    have hp := H.out.1.small z.p (.inl rfl)
    exact C1.kept fun b q0 q1 => by rw [heap_setCell_ne _ _ _ _ (by show b ≠ z.p; omega), heap_setCell_ne _ _ _ _ (by show b ≠ z.p; omega)]
  have I4 := I3.set_keep rfl H.out.1.small C3 hkl
  refine ⟨rfl, z.newK a' c', rfl, I4.1, I4.2, ?_⟩
  exact ((((Only.of_below b1).mono (fun i hi q => by omega)).setCell (.inl (.inl rfl)) _).setCell (.inl (.inl rfl)) _).setCell (.inl (.inl rfl)) _
end Go.Proofs.Ytobgcengijnffaa
