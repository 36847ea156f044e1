/- The document's own disk: Crash, Write, Barrier, Smash by their contracts. -/
import Derived.Test.YtobgcengijnffaaRefOps
namespace Go.Proofs.Ytobgcengijnffaa
open Go.RowKit

theorem waitInfo : (Try.prog.info? 70).map (fun i => (i.zero, i.size, i.bytes)) = some (some (.agg #[.int .i64 0, .string ByteArray.empty]), 2, 24) := by kernel_rfl
theorem strInfo : (Try.prog.info? 9).map (fun i => (i.zero, i.size, i.bytes)) = some (some (.string ByteArray.empty), 1, 16) := by kernel_rfl

/-- What lasts behind the first n of the writes that wait. -/
def Rsk.crashL (R : Rsk) (kl : List Int) : Nat → List ByteArray
  | 0 => R.lasts
  | n + 1 => match R.waits[n]? with
    | some x => if odd (kl.getD n 0) then (R.crashL kl n).set x.1 x.2 else R.crashL kl n
    | none => R.crashL kl n
def Rsk.crash (R : Rsk) (kl : List Int) : Rsk := { R with on := false, lasts := R.crashL kl R.waits.length, waits := [], arm := false }
theorem rcrashL_len (R : Rsk) (kl : List Int) : ∀ n, (R.crashL kl n).length = R.lasts.length
  | 0 => rfl
  | n + 1 => by
    have := rcrashL_len R kl n
    unfold Rsk.crashL
    split
    · split <;> simp [this]
    · exact this
theorem rcrashL_odd {R : Rsk} {kl : List Int} {k : Nat} {x : Nat × ByteArray} (hx : R.waits[k]? = some x) (ho : odd (kl.getD k 0) = true) : R.crashL kl (k + 1) = (R.crashL kl k).set x.1 x.2 := by
  rw [Rsk.crashL, hx]; simp only [ho, if_true]
theorem rcrashL_even {R : Rsk} {kl : List Int} {k : Nat} {x : Nat × ByteArray} (hx : R.waits[k]? = some x) (ho : odd (kl.getD k 0) = false) : R.crashL kl (k + 1) = R.crashL kl k := by
  rw [Rsk.crashL, hx]; simp only [ho, Bool.false_eq_true, if_false]

theorem IsR.texts {w : World} {z : RLay} {R : Rsk} (h : IsR w z R) : ∀ j u, (R.lasts.map Value.string)[j]? = some u → ∃ b : Addr, z.sa = some b ∧ w.cell? (b.add j) = some u := fun j u hu => by
  rw [List.getElem?_map] at hu
  obtain ⟨x, hx, rfl⟩ := Option.map_eq_some_iff.1 hu
  have hj : j < R.lasts.length := (List.getElem?_eq_some_iff.1 hx).1
  obtain ⟨ha, hc⟩ := h.text_at j hj
  refine ⟨_, ha, ?_⟩
  rw [Addr.add_mid, Nat.zero_add, hc]
  rw [List.getElem?_eq_getElem hj] at hx
  simpa using hx

set_option maxHeartbeats 1000000 in
theorem rCrash_off (z : RLay) (R : Rsk) (w : World) (v : Value) (h : IsR w z R) (hon : R.on = false) :
    Calls Try.prog 18 #[.pointer (some ⟨z.p, 0, none⟩), v] w fun e w' => e = .returned (.int .i64 0) ∧ GoesR z w { R with arm := false } w' := by
  have c2 := h.c2
  rw [hon] at c2
  have c3 := h.c3
  have f3 := h.fz 3 (by omega)
  have H := Lib.hid h
  clear h hon
  go_enter Try.func18, Try.ntmps18
  go_wp2
  go_ret
  exact ⟨rfl, GoesR.of (H.out.set_cell 3 _ { R with arm := false } rfl rfl rfl rfl) (Only.foot_r _ _)⟩

set_option maxHeartbeats 1000000 in
theorem rCrash_on (z : RLay) (R : Rsk) (w : World) (ka : Option Addr) (kl : List Int) (kc : Nat) (h : IsR w z R) (hk : IntsAt w ka kl) (hoff : ∀ b : Addr, 0 < kl.length → ka = some b → b.block ≠ z.p) (hkl : kl.length < 2 ^ 62) (hon : R.on = true) :
    Calls Try.prog 18 #[.pointer (some ⟨z.p, 0, none⟩), .slice ka kl.length kc] w fun e w' => e = .returned (.int .i64 (lostN kl R.waits.length : Int)) ∧ GoesR z w (R.crash kl) w' := by
  obtain ⟨i0, hi, hz0, hz1, hz2⟩ := info_parts strInfo
  have HI := Lib.hid (And.intro hi (And.intro hz0 (And.intro hz1 hz2)))
  clear hi hz0 hz1 hz2
  have c2 := h.c2
  rw [hon] at c2
  have c3 := h.c3
  have f3 := h.fz 3 (by omega)
  have c0 := h.c0
  have hlS := h.lenS
  have hlW := h.lenW
  have H := Lib.hid (And.intro h (And.intro hk hoff))
  clear h hk hoff hon
  go_enter Try.func18, Try.ntmps18
  go_wp2_with (first
    | (refine wpList_append_copy rfl (.tmp 18) 46 rfl 9 i0 _ 1 16 Try.underlying46 HI.out.1 HI.out.2.1 HI.out.2.2.1 HI.out.2.2.2 rfl (by omega) (by omega) z.sa R.lasts.length z.cS (R.lasts.map Value.string) rfl (by
         have I1 := H.out.1.set_cell 3 (.bool false) { R with arm := false } rfl rfl rfl rfl
         exact I1.texts) (by simp) (by intro u hu; obtain ⟨x, _, rfl⟩ := List.mem_map.1 hu; rfl) (by omega) ?_
       intro a' c' w1 b1 C1
       have I1 := (H.out.1.set_cell 3 (.bool false) { R with arm := false } rfl rfl rfl rfl).below b1
       have d0 := I1.c0
       have f0 := I1.fz 0 (by omega)
       have HX := Lib.hid (And.intro I1 (And.intro b1 C1))
       clear I1 b1 C1))
  obtain ⟨I1, b1, C1⟩ := HX.out
  rw [size_setCell'] at C1
  have hp := H.out.1.small z.p (.inl rfl)
  have I2 := (I1.set_safe (l := R.lasts) rfl H.out.1.small C1 rfl)
  have o2 : Only (fun b => b = z.p) w (w1.setCell ⟨z.p, 0, none⟩ (.slice a' R.lasts.length c')) :=
    ((Only.of_below b1).mono (fun i hi q => by have : (w.setCell ⟨z.p, 3, none⟩ (.bool false)).heap.size ≤ i := q; rw [size_setCell'] at this; omega) |> fun o => (((Only.refl (fun b => b = z.p) w).setCell (p := ⟨z.p, 3, none⟩) (.inl rfl) (.bool false)).trans o (fun _ _ q => q))).setCell (.inl rfl) _
  have hSge : a' ≠ none → w.heap.size ≤ blkOf a' z.p := fun q => ((C1.row z.p).2 q).1
  have HI2 := Lib.hid (And.intro I2 (And.intro o2 hSge))
  clear I1 b1 C1 I2 o2 hSge HX d0 f0 c0 c2 c3 f3
  generalize w1.setCell ⟨z.p, 0, none⟩ (.slice a' R.lasts.length c') = w2 at *
  have hz1 : ∃ z1 : RLay, z1 = z.newS a' c' := ⟨_, rfl⟩
  obtain ⟨z1, hz1⟩ := hz1
  have I2 : IsR w2 z1 { R with arm := false } := by rw [hz1]; exact HI2.out.1.1
  have hp1 : z1.p = z.p := by rw [hz1]; rfl
  have c1 := I2.c1
  have HZ := Lib.hid (And.intro hz1 (And.intro I2 hp1))
  have hzw : z1.wa = z.wa := by rw [hz1]; rfl
  have hcw : z1.cW = z.cW := by rw [hz1]; rfl
  clear hz1 I2
  rw [hp1] at c1
  have HZ2 := Lib.hid (And.intro hzw hcw)
  clear hzw hcw c1 hp1
  go_wp2
  go_loopw [5, 6] (fun lo i wr => ∃ k : Nat, k ≤ R.waits.length ∧ i = .int .i64 (k : Int) ∧ lo = .int .i64 (lostN kl k : Int) ∧ IsR wr z1 { R with arm := false, lasts := R.crashL kl k } ∧ Only (fun b => b = z.p ∨ w.heap.size ≤ b) w wr) (fun _ i _ => R.waits.length - (intOf i).toNat)
  case atStart => exact ⟨0, Nat.zero_le _, rfl, rfl, HZ.out.2.1, HI2.out.2.1.mono (fun i hi q => .inl q)⟩
  case round =>
    obtain ⟨k, hkn, rfl, rfl, I, ho⟩ := hrel
    have hlo := lostN_le kl k
    have c1 := I.c1
    rw [HZ.out.2.2] at c1
    have c1' : wr.cell? ⟨z.p, 1, none⟩ = some (.slice z1.wa R.waits.length z1.cW) := c1
    clear c1
    by_cases hlt : k < R.waits.length
    · have hx : R.waits[k]? = some R.waits[k] := List.getElem?_eq_getElem hlt
      obtain ⟨hwa, e0, e1⟩ := I.wait_at (i := k) hx
      have hxk : (R.waits[k]).1 < R.lasts.length := I.blk _ (List.getElem_mem hlt) |> fun q => by rw [show ({ R with arm := false, lasts := R.crashL kl k } : Rsk).lasts.length = R.lasts.length from rcrashL_len R kl k] at q; exact q
      have HX := Lib.hid hx
      clear hx
      generalize R.waits[k] = x at *
      rw [hwa] at c1'
      by_cases hkk : k < kl.length
      · obtain ⟨b, rfl, hbl, hbc⟩ := H.out.2.1 k _ (List.getElem?_eq_getElem hkk)
        have hbne := H.out.2.2 b (by omega) rfl
        have hcell : wr.cell? (b.add k) = some (.int .i64 kl[k]) := by
          rw [World.cell?_of_block (w := w) (a := b.add k) (by rw [add_block]; exact ho.block _ hbl (fun q => by rcases q with q | q; exact hbne q; omega))]
          exact hbc
        have HZk := Lib.hid (show odd (kl.getD k 0) = odd kl[k] by simp [List.getD, hkk])
        clear hbc hbne
        generalize kl[k] = zz at *
        cases ho2 : odd zz
        · have hbit : (bits .and .i64 zz 1 == 1) = false := by rw [i64_and1]; exact ho2
          have HE := Lib.hid (show odd (kl.getD k 0) = false by rw [HZk.out]; exact ho2)
          have HR := Lib.hid (And.intro I ho)
          clear ho2 I ho hwa e0 e1
          go_wp2
          refine ⟨⟨k + 1, by omega, by go_num, ?_, ?_, HR.out.2⟩, by simp [intOf]; omega⟩
          · rw [lostN_even HE.out]; go_num
          · rw [rcrashL_even HX.out HE.out]; exact HR.out.1
        · have hbit : (bits .and .i64 zz 1 == 1) = true := by rw [i64_and1]; exact ho2
          have HE := Lib.hid (show odd (kl.getD k 0) = true by rw [HZk.out]; exact ho2)
          have hlen : (R.crashL kl k).length = R.lasts.length := rcrashL_len R kl k
          obtain ⟨_, hsa, ⟨u0, hu0⟩, hfz⟩ := I.set_at x.1 (by show x.1 < (R.crashL kl k).length; omega) x.2
          have c0 := I.c0
          rw [HZ.out.2.2, hsa] at c0
          change wr.cell? ⟨z.p, 0, none⟩ = some (.slice (some ⟨z1.S, 0, none⟩) (R.crashL kl k).length z1.cS) at c0
          rw [hlen] at c0
          have hpS : z.p ≠ z1.S := fun e => by have := I.neS (by rw [hsa]; simp); rw [HZ.out.2.2] at this; exact this e.symm
          have hWS : z1.W ≠ z1.S := (I.neW (by rw [hwa]; simp)).2 (by rw [hsa]; simp)
          have hge : w.heap.size ≤ z1.S := by
            rw [HZ.out.1]
            refine HI2.out.2.2 (fun q => ?_)
            have : z1.sa = a' := by rw [HZ.out.1]; rfl
            rw [this, q] at hsa
            cases hsa
          have HR := Lib.hid (And.intro I (And.intro ho (And.intro hlen hge)))
          clear ho2 I ho hwa hsa hlen hge
          go_wp2
          go_region_held3 (fun u => u.cell? ⟨z.p, 0, none⟩ = some (.slice (some ⟨z1.S, 0, none⟩) R.lasts.length z1.cS) ∧ u.cell? ⟨z.p, 1, none⟩ = some (.slice (some ⟨z1.W, 0, none⟩) R.waits.length z1.cW) ∧ u.cell? ⟨z1.W, k * 2, none⟩ = some (.int .i64 (x.1 : Int)) ∧ u.cell? ⟨z1.W, k * 2 + 1, none⟩ = some (.string x.2)) (first
            | (simp only [World.cell?_drew]; exact ⟨c0, c1', e0, e1⟩)
            | (go_split_ands; refine ⟨(World.cell?_setCell_other _ _ _ _ ?_).trans (by assumption), (World.cell?_setCell_other _ _ _ _ ?_).trans (by assumption), (World.cell?_setCell_other _ _ _ _ ?_).trans (by assumption), (World.cell?_setCell_other _ _ _ _ ?_).trans (by assumption)⟩ <;> (intro e; injection e with e; first | exact hpS e.symm | exact hWS e.symm))) (first | fail)
          go_wp2
          refine ⟨⟨k + 1, by omega, by go_num, ?_, ?_, ?_⟩, by simp [intOf]; omega⟩
          · rw [lostN_odd HE.out]
          · rw [rcrashL_odd HX.out HE.out]
            exact ((HR.out.1.drew).set_at x.1 (by show x.1 < (R.crashL kl k).length; rw [HR.out.2.2.1]; exact hxk) x.2).1
          · exact HR.out.2.1.drew.setCell (.inl (.inr HR.out.2.2.2)) _
      · have HE := Lib.hid (show odd (kl.getD k 0) = false by simp [List.getD, List.getElem?_eq_none (show kl.length ≤ k by omega), odd])
        have HR := Lib.hid (And.intro I ho)
        clear I ho hwa e0 e1
        go_wp2
        refine ⟨⟨k + 1, by omega, by go_num, ?_, ?_, HR.out.2⟩, by simp [intOf]; omega⟩
        · rw [lostN_even HE.out]; go_num
        · rw [rcrashL_even HX.out HE.out]; exact HR.out.1
    · obtain rfl : k = R.waits.length := by omega
      have hn : ¬ (R.waits.length : Int) < (R.waits.length : Int) := by omega
      have c2 := I.c2
      have f1 := I.fz 1 (by omega)
      have f2 := I.fz 2 (by omega)
      rw [HZ.out.2.2] at c2 f1 f2
      have HR := Lib.hid (And.intro I ho)
      clear I ho hlt
      go_wp2
      go_ret
      obtain ⟨I, ho⟩ := HR.out
      have I3 := I.no_waits
      have I4 := I3.1.set_cell 2 (.bool true) (R.crash kl) rfl rfl rfl rfl
      have hpp : (z1.newW none 0).p = z.p := HZ.out.2.2
      rw [hpp, HZ.out.2.2] at I4
      refine ⟨rfl, z1.newW none 0, hpp, I4, fun b q => ?_, ?_⟩
      · have q1 := I3.2 b q
        have q2 := HI2.out.1.2 b (by rw [← HZ.out.1]; exact q1)
        exact q2
      · have o3 := (ho.setCell (p := ⟨z.p, 1, none⟩) (.inl (.inl rfl)) (.slice none 0 0)).setCell (p := ⟨z.p, 2, none⟩) (.inl (.inl rfl)) (.bool true)
        exact o3.mono (fun i hi q => by
          rcases q with q | q
          · exact .inl q
          · omega)
end Go.Proofs.Ytobgcengijnffaa
