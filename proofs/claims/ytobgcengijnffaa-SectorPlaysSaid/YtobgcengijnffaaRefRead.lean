/- The document's own disk: Read and Smash by their contracts. -/
import Derived.Test.YtobgcengijnffaaRefBarrier
namespace Go.Proofs.Ytobgcengijnffaa
open Go.RowKit

set_option maxHeartbeats 1000000 in
theorem rRead_off (z : RLay) (R : Rsk) (w : World) (k : Int) (h : IsR w z R) (hon : R.on = false) :
    Calls Try.prog 31 #[.pointer (some ⟨z.p, 0, none⟩), .int .i64 k] w fun e w' => e = .returned (.tuple #[.string ⟨#[]⟩, .int .i64 3]) ∧ w' = w := by
  have c2 := h.c2
  rw [hon] at c2
  clear h hon
  go_enter Try.func31, Try.ntmps31
  go_wp2
  go_ret2
  exact ⟨rfl, rfl⟩

set_option maxHeartbeats 1000000 in
theorem rRead_out (z : RLay) (R : Rsk) (w : World) (k : Int) (h : IsR w z R) (hon : R.on = true) (hk : k < 0 ∨ (R.lasts.length : Int) ≤ k) :
    Calls Try.prog 31 #[.pointer (some ⟨z.p, 0, none⟩), .int .i64 k] w fun e w' => e = .returned (.tuple #[.string ⟨#[]⟩, .int .i64 1]) ∧ w' = w := by
  have c2 := h.c2
  rw [hon] at c2
  have c0 := h.c0
  clear h hon
  rcases Int.lt_or_le k 0 with hk0 | hk0
  · go_enter Try.func31, Try.ntmps31
    go_wp2
    go_ret2
    exact ⟨rfl, rfl⟩
  · have hk1 : (R.lasts.length : Int) ≤ k := by omega
    have hk2 : ¬ k < 0 := by omega
    clear hk
    go_enter Try.func31, Try.ntmps31
    go_wp2
    go_ret2
    exact ⟨rfl, rfl⟩

set_option maxHeartbeats 1000000 in
theorem rRead_in (z : RLay) (R : Rsk) (w : World) (m : Nat) (h : IsR w z R) (hon : R.on = true) (hm : m < R.lasts.length) :
    Calls Try.prog 31 #[.pointer (some ⟨z.p, 0, none⟩), .int .i64 (m : Int)] w fun e w' => e = .returned (.tuple #[.string ((R.laidL R.waits.length).getD m ByteArray.empty), .int .i64 0]) ∧ w' = w := by
  have c2 := h.c2
  rw [hon] at c2
  have c0 := h.c0
  have c1 := h.c1
  have hlS := h.lenS
  have hlW := h.lenW
  obtain ⟨ha, ht⟩ := h.text_at m hm
  rw [ha] at c0
  have HT := Lib.hid (show R.lasts[m] = (R.laidL 0).getD m ByteArray.empty by rw [Rsk.laidL, List.getD_eq_getElem?_getD, List.getElem?_eq_getElem hm]; rfl)
  have H := Lib.hid h
  clear h hon ha
  generalize R.lasts[m] = b0 at *
  have hk2 : ¬ (m : Int) < 0 := by omega
  have hk3 : ¬ (R.lasts.length : Int) ≤ (m : Int) := by omega
  go_enter Try.func31, Try.ntmps31
  go_wp2
  go_loopw [6, 7] (fun b i wr => ∃ k : Nat, k ≤ R.waits.length ∧ i = .int .i64 (k : Int) ∧ b = .string ((R.laidL k).getD m ByteArray.empty) ∧ wr = w) (fun _ i _ => R.waits.length - (intOf i).toNat)
  case atStart => exact ⟨0, Nat.zero_le _, rfl, by rw [HT.out], rfl⟩
  case round =>
    obtain ⟨k, hkn, rfl, rfl, rfl⟩ := hrel
    by_cases hlt : k < R.waits.length
    · have hx : R.waits[k]? = some R.waits[k] := List.getElem?_eq_getElem hlt
      obtain ⟨hwa, e0, e1⟩ := H.out.wait_at (i := k) hx
      have HX := Lib.hid (laidL_succ hx)
      clear hx
      generalize R.waits[k] = x at *
      rw [hwa] at c1
      by_cases hxm : x.1 = m
      · have hxm' : ((x.1 : Int) == (m : Int)) = true := by simp [hxm]
        have HM := Lib.hid hxm
        clear hxm hwa
        go_wp2
        refine ⟨⟨k + 1, by omega, by go_num, ?_, trivial⟩, by simp [intOf]; omega⟩
        rw [HX.out, HM.out]
        rw [List.getD_eq_getElem?_getD, List.getElem?_set_self (by rw [laidL_len]; exact hm)]
        rfl
      · have hxm' : ((x.1 : Int) == (m : Int)) = false := by simp; omega
        have HM := Lib.hid hxm
        clear hxm hwa
        go_wp2
        refine ⟨⟨k + 1, by omega, by go_num, ?_, trivial⟩, by simp [intOf]; omega⟩
        rw [HX.out, List.getD_eq_getElem?_getD, List.getD_eq_getElem?_getD, List.getElem?_set_ne HM.out]
    · obtain rfl : k = R.waits.length := by omega
      have hn : ¬ (R.waits.length : Int) < (R.waits.length : Int) := by omega
      clear hlt
      go_wp2
      go_ret2
      exact ⟨rfl, rfl⟩

/-- May a sector be turned? -/
def Rsk.maySmash (R : Rsk) (k : Int) (b : ByteArray) : Bool := !R.on && decide (0 ≤ k ∧ k < R.lasts.length) && b.size == 32

set_option maxHeartbeats 1000000 in
theorem rSmash_not (z : RLay) (R : Rsk) (w : World) (k : Int) (b : ByteArray) (h : IsR w z R) (hm : R.maySmash k b = false) :
    Calls Try.prog 24 #[.pointer (some ⟨z.p, 0, none⟩), .int .i64 k, .string b] w fun e w' => e = .returned (.bool false) ∧ w' = w := by
  have c2 := h.c2
  have c0 := h.c0
  clear h
  cases hon : R.on
  · rw [hon] at c2
    rcases Int.lt_or_le k 0 with hk0 | hk0
    · clear hm hon
      go_enter Try.func24, Try.ntmps24
      go_wp2
      go_ret
      exact ⟨rfl, rfl⟩
    · by_cases hk1 : (R.lasts.length : Int) ≤ k
      · have hk2 : ¬ k < 0 := by omega
        clear hm hon hk0
        go_enter Try.func24, Try.ntmps24
        go_wp2
        go_ret
        exact ⟨rfl, rfl⟩
      · have hk2 : ¬ k < 0 := by omega
        have hb : b.size ≠ 32 := by
          intro e
          simp [Rsk.maySmash, hon, e, hk0] at hm
          omega
        have hb2 : (((b.size : Int)) != 32) = true := by simp; omega
        clear hm hon hk0
        go_enter Try.func24, Try.ntmps24
        go_wp2
        go_ret
        exact ⟨rfl, rfl⟩
  · rw [hon] at c2
    clear hm hon
    go_enter Try.func24, Try.ntmps24
    go_wp2
    go_ret
    exact ⟨rfl, rfl⟩

set_option maxHeartbeats 1000000 in
theorem rSmash_ok (z : RLay) (R : Rsk) (w : World) (m : Nat) (b : ByteArray) (h : IsR w z R) (hon : R.on = false) (hm : m < R.lasts.length) (hb : b.size = 32) :
    Calls Try.prog 24 #[.pointer (some ⟨z.p, 0, none⟩), .int .i64 (m : Int), .string b] w fun e w' => e = .returned (.bool true) ∧ GoesR z w { R with lasts := R.lasts.set m b } w' := by
  obtain ⟨i0, hi, hz0, hz1, hz2⟩ := info_parts strInfo
  have HI := Lib.hid (And.intro hi (And.intro hz0 (And.intro hz1 hz2)))
  clear hi hz0 hz1 hz2
  have c2 := h.c2
  rw [hon] at c2
  have c0 := h.c0
  have hlS := h.lenS
  have hk2 : ¬ (m : Int) < 0 := by omega
  have hk3 : ¬ (R.lasts.length : Int) ≤ (m : Int) := by omega
  have hb2 : (((b.size : Int)) != 32) = false := by simp; omega
  have H := Lib.hid (And.intro h hb)
  clear h hon hb
  go_enter Try.func24, Try.ntmps24
  go_wp2_with (first
    | (refine wpList_append_copy rfl (.tmp 34) 46 rfl 9 i0 _ 1 16 Try.underlying46 HI.out.1 HI.out.2.1 HI.out.2.2.1 HI.out.2.2.2 rfl (by omega) (by omega) z.sa R.lasts.length z.cS (R.lasts.map Value.string) rfl H.out.1.texts (by simp) (by intro u hu; obtain ⟨x, _, rfl⟩ := List.mem_map.1 hu; rfl) (by omega) ?_
       intro a' c' w1 b1 C1
       have I1 := H.out.1.below b1
       have d0 := I1.c0
       have f0 := I1.fz 0 (by omega)
       have C1' := C1
       obtain ⟨_, q, _⟩ | ⟨g, rfl, hg0, hg1, hgo⟩ := C1'
       · omega
       have hp := H.out.1.small z.p (.inl rfl)
       have hgp : g ≠ z.p := by omega
       have hpg : z.p ≠ g := by omega
       have e1 : w1.cell? ⟨g, m, none⟩ = some (.string R.lasts[m]) := by
         rw [hgo.cellAt m (by omega)]; simp [hm]
       have e2 : w1.frozen? ⟨g, m, none⟩ = false := hgo.frozenAt m
       have HX := Lib.hid (And.intro I1 (And.intro b1 (And.intro C1 hg0)))
       clear I1 b1 C1 hgo hg0 hg1))
  go_ret
  obtain ⟨I1, b1, C1, hg0⟩ := HX.out
  have I2 := (I1.set_safe (l := R.lasts) rfl H.out.1.small C1 rfl)
  have o2 : Only (fun b => z.foot b ∨ w.heap.size ≤ b) w (w1.setCell ⟨z.p, 0, none⟩ (.slice (some ⟨g, 0, none⟩) R.lasts.length c')) := by
    exact (((Only.of_below b1).mono (fun i hi q => .inr q))).setCell (.inl (.inl (.inl rfl))) _
  obtain ⟨I3, _, _, _⟩ := I2.1.set_at m hm b
  refine ⟨rfl, z.newS (some ⟨g, 0, none⟩) c', rfl, I3, I2.2, (o2.setCell (p := ⟨g, m, none⟩) (.inl (.inr hg0)) (.string b)).mono (fun i hi q => ?_)⟩
  rcases q with q | q
  · exact q
  · omega
end Go.Proofs.Ytobgcengijnffaa
