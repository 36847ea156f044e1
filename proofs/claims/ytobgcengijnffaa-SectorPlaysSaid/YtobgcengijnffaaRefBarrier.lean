/- The document's own disk: Barrier by its contract. -/
import Derived.Test.YtobgcengijnffaaRefWrite
namespace Go.Proofs.Ytobgcengijnffaa
open Go.RowKit

/-- What lasts with the first n of the writes that wait laid over it. -/
def Rsk.laidL (R : Rsk) : Nat → List ByteArray
  | 0 => R.lasts
  | n + 1 => match R.waits[n]? with
    | some x => (R.laidL n).set x.1 x.2
    | none => R.laidL n
theorem laidL_len (R : Rsk) : ∀ n, (R.laidL n).length = R.lasts.length
  | 0 => rfl
  | n + 1 => by
    have := laidL_len R n
    unfold Rsk.laidL
    split
    · simp [this]
    · exact this
theorem laidL_succ {R : Rsk} {k : Nat} {x : Nat × ByteArray} (hx : R.waits[k]? = some x) : R.laidL (k + 1) = (R.laidL k).set x.1 x.2 := by
  rw [Rsk.laidL, hx]
theorem laidL_dec (R : Rsk) : ∀ n, R.dec.laidL n = R.laidL n
  | 0 => rfl
  | n + 1 => by
    have := laidL_dec R n
    simp only [Rsk.laidL, this]
    rfl
/-- Behind a barrier. -/
def Rsk.bar (R : Rsk) : Rsk := { R with lasts := R.laidL R.waits.length, waits := [], deeds := R.deeds + 1 }

set_option maxHeartbeats 1000000 in
theorem rBarrier_off (z : RLay) (R : Rsk) (w : World) (h : IsR w z R) (hon : R.on = false) :
    Calls Try.prog 16 #[.pointer (some ⟨z.p, 0, none⟩)] w fun e w' => e = .returned (.int .i64 3) ∧ w' = w := by
  have H := Lib.hid (And.intro h hon)
  clear h hon
  go_enter Try.func16, Try.ntmps16
  go_wp2_with (go_at_call 36; refine (rmay_off z R _ H.out.1 H.out.2).mono ?_; rintro e w1 ⟨rfl, rfl⟩)
  go_ret
  exact ⟨rfl, rfl⟩

set_option maxHeartbeats 1000000 in
theorem rBarrier_goes (z : RLay) (R : Rsk) (w : World) (h : IsR w z R) (hon : R.on = true) (hg : R.goes = true) :
    Calls Try.prog 16 #[.pointer (some ⟨z.p, 0, none⟩)] w fun e w' => e = .returned (.int .i64 3) ∧ GoesR z w (R.dec.crash R.keep) w' := by
  have H := Lib.hid (And.intro h (And.intro hon hg))
  clear h hon hg
  go_enter Try.func16, Try.ntmps16
  go_wp2_with (first
    | (go_at_call 36
       refine (rmay_on z R _ H.out.1 H.out.2.1).mono ?_
       rintro e w1 ⟨rfl, I1, o1⟩
       rw [H.out.2.2]
       have c5 := I1.c5
       change w1.cell? ⟨z.p, 5, none⟩ = some (.slice z.ka R.keep.length z.cK) at c5
       have H1 := Lib.hid (And.intro I1 o1)
       clear I1 o1)
    | (go_at_call 18
       refine (rCrash_on z R.dec _ z.ka R.keep z.cK H1.out.1 H1.out.1.keepOf (fun b q0 q => by
         have q1 := H1.out.1.rK
         rcases q1 with ⟨_, q2, _⟩ | ⟨q2, _⟩
         · have q2' : R.keep.length = 0 := q2
           omega
         · rw [q2] at q
           obtain rfl : (⟨z.K, 0, none⟩ : Addr) = b := by simpa using q
           exact (H1.out.1.neK (by rw [q2]; simp)).1) (by have := H1.out.1.lenK; have e : R.dec.keep = R.keep := rfl; rw [e] at this; omega) H.out.2.1).mono ?_
       rintro e w2 ⟨rfl, hgs⟩))
  go_ret
  exact ⟨rfl, GoesR.fold rfl (fun _ q => .inl q) H1.out.2 hgs⟩

set_option maxHeartbeats 1000000 in
theorem rBarrier_stays (z : RLay) (R : Rsk) (w : World) (h : IsR w z R) (hon : R.on = true) (hg : R.goes = false) (hdd : R.deeds + 1 < 2 ^ 60) :
    Calls Try.prog 16 #[.pointer (some ⟨z.p, 0, none⟩)] w fun e w' => e = .returned (.int .i64 0) ∧ GoesR z w R.dec.bar w' := by
  obtain ⟨i0, hi, hz0, hz1, hz2⟩ := info_parts strInfo
  have HI := Lib.hid (And.intro hi (And.intro hz0 (And.intro hz1 hz2)))
  clear hi hz0 hz1 hz2
  have hlS := h.lenS
  have hlW := h.lenW
  have H := Lib.hid (And.intro h (And.intro hon hg))
  clear h hon hg
  go_enter Try.func16, Try.ntmps16
  go_wp2_with (first
    | (go_at_call 36
       refine (rmay_on z R _ H.out.1 H.out.2.1).mono ?_
       rintro e w0 ⟨rfl, I1, o1⟩
       rw [H.out.2.2]
       have c0 := I1.c0
       change w0.cell? ⟨z.p, 0, none⟩ = some (.slice z.sa R.lasts.length z.cS) at c0
       have H0 := Lib.hid (And.intro I1 o1)
       clear I1 o1)
    | (refine wpList_append_copy rfl (.tmp 25) 46 rfl 9 i0 _ 1 16 Try.underlying46 HI.out.1 HI.out.2.1 HI.out.2.2.1 HI.out.2.2.2 rfl (by omega) (by omega) z.sa R.lasts.length z.cS (R.lasts.map Value.string) rfl H0.out.1.texts (by simp) (by intro u hu; obtain ⟨x, _, rfl⟩ := List.mem_map.1 hu; rfl) (by omega) ?_
       intro a' c' w1 b1 C1
       have I1 := H0.out.1.below b1
       have d0 := I1.c0
       have f0 := I1.fz 0 (by omega)
       have HX := Lib.hid (And.intro I1 (And.intro b1 C1))
       clear I1 b1 C1))
  obtain ⟨I1, b1, C1⟩ := HX.out
  have hw0 : w.heap.size ≤ w0.heap.size := H0.out.2.size
  have hp := H.out.1.small z.p (.inl rfl)
  have I2 := (I1.set_safe (l := R.lasts) rfl H0.out.1.small C1 rfl)
  have o2 : Only (fun b => z.foot b ∨ w.heap.size ≤ b) w (w1.setCell ⟨z.p, 0, none⟩ (.slice a' R.lasts.length c')) := by
    exact (((H0.out.2.mono (fun i hi q => Or.inl q)).trans (Only.of_below b1) (fun i hi q => .inr (Nat.le_trans hw0 q))).setCell (.inl (.inl (.inl rfl))) _)
  have hSge : a' ≠ none → w.heap.size ≤ blkOf a' z.p := fun q => Nat.le_trans hw0 ((C1.row z.p).2 q).1
  have HI2 := Lib.hid (And.intro I2 (And.intro o2 hSge))
  clear I1 b1 C1 I2 o2 hSge HX d0 f0 c0
  generalize w1.setCell ⟨z.p, 0, none⟩ (.slice a' R.lasts.length c') = w2 at *
  have hz1 : ∃ z1 : RLay, z1 = z.newS a' c' := ⟨_, rfl⟩
  obtain ⟨z1, hz1⟩ := hz1
  have I2 : IsR w2 z1 R.dec := by rw [hz1]; exact HI2.out.1.1
  have hp1 : z1.p = z.p := by rw [hz1]; rfl
  have HZ := Lib.hid (And.intro hz1 (And.intro I2 hp1))
  clear hz1 I2 hp1
  go_wp2
  go_loopw [5] (fun i wr => ∃ k : Nat, k ≤ R.waits.length ∧ i = .int .i64 (k : Int) ∧ IsR wr z1 { R.dec with lasts := R.laidL k } ∧ Only (fun b => z.foot b ∨ w.heap.size ≤ b) w wr) (fun i _ => R.waits.length - (intOf i).toNat)
  case atStart => exact ⟨0, Nat.zero_le _, rfl, HZ.out.2.1, HI2.out.2.1⟩
  case round =>
    obtain ⟨k, hkn, rfl, I, ho⟩ := hrel
    have c1 := I.c1
    rw [HZ.out.2.2] at c1
    have c1' : wr.cell? ⟨z.p, 1, none⟩ = some (.slice z1.wa R.waits.length z1.cW) := c1
    clear c1
    by_cases hlt : k < R.waits.length
    · have hx : R.waits[k]? = some R.waits[k] := List.getElem?_eq_getElem hlt
      obtain ⟨hwa, e0, e1⟩ := I.wait_at (i := k) hx
      have hxk : (R.waits[k]).1 < R.lasts.length := I.blk _ (List.getElem_mem hlt) |> fun q => by rw [show ({ R.dec with lasts := R.laidL k } : Rsk).lasts.length = R.lasts.length from laidL_len R k] at q; exact q
      have HX := Lib.hid hx
      clear hx
      generalize R.waits[k] = x at *
      rw [hwa] at c1'
      have hlen : (R.laidL k).length = R.lasts.length := laidL_len R k
      obtain ⟨_, hsa, ⟨u0, hu0⟩, hfz⟩ := I.set_at x.1 (by show x.1 < (R.laidL k).length; omega) x.2
      have c0 := I.c0
      rw [HZ.out.2.2, hsa] at c0
      change wr.cell? ⟨z.p, 0, none⟩ = some (.slice (some ⟨z1.S, 0, none⟩) (R.laidL k).length z1.cS) at c0
      rw [hlen] at c0
      have hpS : z.p ≠ z1.S := fun e => by have := I.neS (by rw [hsa]; simp); rw [HZ.out.2.2] at this; exact this e.symm
      have hWS : z1.W ≠ z1.S := (I.neW (by rw [hwa]; simp)).2 (by rw [hsa]; simp)
      have hge : w.heap.size ≤ z1.S := by
        rw [HZ.out.1]
        refine HI2.out.2.2 (fun q => ?_)
        have : z1.sa = a' := by rw [HZ.out.1]; rfl
        rw [this, q] at hsa
        cases hsa
      have HR := Lib.hid (And.intro I (And.intro ho (And.intro hlen hge)))
      clear I ho hwa hsa hlen hge
      go_wp2
      go_region_held3 (fun u => u.cell? ⟨z.p, 0, none⟩ = some (.slice (some ⟨z1.S, 0, none⟩) R.lasts.length z1.cS) ∧ u.cell? ⟨z.p, 1, none⟩ = some (.slice (some ⟨z1.W, 0, none⟩) R.waits.length z1.cW) ∧ u.cell? ⟨z1.W, k * 2, none⟩ = some (.int .i64 (x.1 : Int)) ∧ u.cell? ⟨z1.W, k * 2 + 1, none⟩ = some (.string x.2)) (first
        | (simp only [World.cell?_drew]; exact ⟨c0, c1', e0, e1⟩)
        | (go_split_ands; refine ⟨(World.cell?_setCell_other _ _ _ _ ?_).trans (by assumption), (World.cell?_setCell_other _ _ _ _ ?_).trans (by assumption), (World.cell?_setCell_other _ _ _ _ ?_).trans (by assumption), (World.cell?_setCell_other _ _ _ _ ?_).trans (by assumption)⟩ <;> (intro e; injection e with e; first | exact hpS e.symm | exact hWS e.symm))) (first | fail)
      go_wp2
      refine ⟨⟨k + 1, by omega, by go_num, ?_, ?_⟩, by simp [intOf]; omega⟩
      · rw [laidL_succ HX.out]
        exact ((HR.out.1.drew).set_at x.1 (by show x.1 < (R.laidL k).length; rw [HR.out.2.2.1]; exact hxk) x.2).1
      · exact HR.out.2.1.drew.setCell (.inl (.inr HR.out.2.2.2)) _
    · obtain rfl : k = R.waits.length := by omega
      have hn : ¬ (R.waits.length : Int) < (R.waits.length : Int) := by omega
      have c6 := I.c6
      have f1 := I.fz 1 (by omega)
      have f6 := I.fz 6 (by omega)
      rw [HZ.out.2.2] at c6 f1 f6
      change wr.cell? ⟨z.p, 6, none⟩ = some (.int .i64 (R.deeds : Int)) at c6
      have HR := Lib.hid (And.intro I ho)
      clear I ho hlt
      go_wp2
      go_ret
      obtain ⟨I, ho⟩ := HR.out
      have I3 := I.no_waits
      have eb : R.dec.bar = { R.dec with lasts := R.laidL R.waits.length, waits := [], deeds := R.deeds + 1 } := by
        rw [Rsk.bar, laidL_dec]; rfl
      rw [eb]
      have I4 := I3.1.set_cell 6 (.int .i64 ((R.deeds + 1 : Nat) : Int)) { R.dec with lasts := R.laidL R.waits.length, waits := [], deeds := R.deeds + 1 } rfl rfl rfl rfl
      have hpp : (z1.newW none 0).p = z.p := HZ.out.2.2
      rw [hpp, HZ.out.2.2, show ((R.deeds + 1 : Nat) : Int) = (R.deeds : Int) + 1 by omega] at I4
      refine ⟨rfl, z1.newW none 0, hpp, I4, fun b q => ?_, ?_⟩
      · have q1 := I3.2 b q
        have q2 := HI2.out.1.2 b (by rw [← HZ.out.1]; exact q1)
        exact q2.imp id (fun q => Nat.le_trans hw0 q)
      · have o3 := (ho.setCell (p := ⟨z.p, 1, none⟩) (.inl (.inl (.inl rfl))) (.slice none 0 0)).setCell (p := ⟨z.p, 6, none⟩) (.inl (.inl (.inl rfl))) (.int .i64 ((R.deeds : Int) + 1))
        exact o3.mono (fun i hi q => by
          rcases q with q | q
          · exact q
          · omega)
end Go.Proofs.Ytobgcengijnffaa
