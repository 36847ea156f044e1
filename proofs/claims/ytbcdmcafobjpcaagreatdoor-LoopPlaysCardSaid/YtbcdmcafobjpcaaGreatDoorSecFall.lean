/- Disk.Crash without power, fall, Barrier by their contracts. -/
import Derived.Test.YtbcdmcafobjpcaaGreatDoorSecCrash
namespace Go.Proofs.YtbcdmcafobjpcaaGreatDoor.Sec
open Go.RowKit

set_option maxRecDepth 100000 in
set_option maxHeartbeats 1000000 in
theorem Crash_off (y : Lay) (D : Dsk) (w : World) (v : Value) (h : IsD w y D) (hon : D.on = false) :
    Calls Tryz.prog 16 #[.pointer (some ⟨y.p, 0, none⟩), v] w fun e w' => e = .returned (.int .i64 0) ∧ Goes y w D.disarm w' := by
  have c1 := h.head.c1
  rw [hon] at c1
  have f6 := h.head.fz 6 (by omega)
  have f7 := h.head.fz 7 (by omega)
  have f8 := h.head.fz 8 (by omega)
  have c6 := h.head.c6
  have c7 := h.head.c7
  have c8 := h.head.c8
  have H := Lib.hid h
  clear h hon
  go_enter Tryz.func16, Tryz.ntmps16
  go_wp2_with (go_at_call 29; refine (none_is y D _ H.out).mono ?_; rintro e w' ⟨rfl, rfl⟩)
  go_ret
  refine ⟨rfl, y.noK, rfl, H.out.set_noK, ?_, ?_⟩
  · intro b q
    rcases q with q | q | q | q | q
    · exact .inl (.inl q)
    · exact .inl (.inr (.inl q))
    · exact .inl (.inr (.inr (.inl q)))
    · exact .inl (.inr (.inr (.inr (.inl q))))
    · exact .inl (.inl q)
  · exact (((Only.refl _ _).setCell (.inl (.inl rfl)) _).setCell (.inl (.inl rfl)) _).setCell (.inl (.inl rfl)) _

theorem IsD.keepIs {w : World} {y : Lay} {D : Dsk} (h : IsD w y D) : KeepIs w y y.ka D.keep where
  at_ := fun j z hz => ⟨⟨y.K, 0, none⟩, h.shp.kaE (Nat.lt_of_le_of_lt (Nat.zero_le _) (List.getElem?_eq_some_iff.1 hz).1), by rw [Addr.add_mid, Nat.zero_add]; exact h.bod.rK j z hz⟩
  off := fun a h0 ha => by
    rw [h.shp.kaE h0] at ha
    obtain rfl : (⟨y.K, 0, none⟩ : Addr) = a := by simpa using ha
    have := h.shp.nK h0
    exact ⟨h.small _ (.inr (.inr (.inr (.inr rfl)))), this.1, this.2.1, this.2.2.1⟩

set_option maxRecDepth 100000 in
set_option maxHeartbeats 1000000 in
theorem fall_is (y : Lay) (D : Dsk) (w : World) (h : IsD w y D) (hon : D.on = true) :
    Calls Tryz.prog 97 #[.pointer (some ⟨y.p, 0, none⟩)] w fun e w' => e = .returned (.int .i64 3) ∧ Goes y w (D.crash D.keep) w' := by
  have c8 := h.head.c8
  have H := Lib.hid (And.intro h hon)
  clear h hon
  go_enter Tryz.func97, Tryz.ntmps97
  go_wp2_with (go_at_call 16; refine (Crash_on y D _ y.ka D.keep y.cK H.out.1 H.out.1.keepIs H.out.1.shp.keepB H.out.2).mono ?_; rintro e w' ⟨rfl, hg⟩)
  go_ret
  exact ⟨rfl, hg⟩

/-- What lasts behind a Barrier, of the first n writes that wait. -/
def Dsk.barL (D : Dsk) : Nat → List ByteArray
  | 0 => D.lasts
  | n + 1 => match D.waits[n]? with
    | some x => (D.barL n).set x.1 x.2
    | none => D.barL n
theorem barL_len (D : Dsk) : ∀ n, (D.barL n).length = D.lasts.length
  | 0 => rfl
  | n + 1 => by
    have := barL_len D n
    unfold Dsk.barL
    split
    · simp [this]
    · exact this
theorem barL_step {D : Dsk} {k : Nat} {x : Nat × ByteArray} (hx : D.waits[k]? = some x) : D.barL (k + 1) = (D.barL k).set x.1 x.2 := by rw [Dsk.barL, hx]
/-- A disk behind a Barrier. -/
def Dsk.bar (D : Dsk) : Dsk := { D with lasts := D.barL D.waits.length, waits := [], deeds := D.deeds + 1 }

theorem mayB_on {D : Dsk} (h : D.mayB = 0) : D.on = true := by
  unfold Dsk.mayB at h
  split at h
  · assumption
  · cases h

theorem Goes.fold {y y1 : Lay} {w w1 w2 : World} {D2 : Dsk} (hp : y1.p = y.p) (hf : ∀ b, y1.foot b → y.foot b ∨ w.heap.size ≤ b) (ho : Only y.foot w w1) (g : Goes y1 w1 D2 w2) : Goes y w D2 w2 := by
  obtain ⟨y2, hp2, hi2, hf2, ho2⟩ := g
  refine ⟨y2, hp2.trans hp, hi2, fun b q => ?_, ho.trans ho2 fun i hi q => ?_⟩
  · rcases hf2 b q with q | q
    · exact hf b q
    · exact .inr (Nat.le_trans ho.size q)
  · rcases hf i q with q | q
    · exact q
    · omega

set_option maxRecDepth 100000 in
set_option maxHeartbeats 1000000 in
theorem Barrier_not (y : Lay) (D : Dsk) (w : World) (h : IsD w y D) (hm : D.mayB ≠ 0) :
    Calls Tryz.prog 82 #[.pointer (some ⟨y.p, 0, none⟩)] w fun e w' => e = .returned (.int .i64 D.mayB) ∧ w' = w := by
  have hb : (D.mayB == 0) = false := by simpa using hm
  have hb' : (D.mayB != 0) = true := by simpa using hm
  have H := Lib.hid h
  clear h hm
  go_enter Tryz.func82, Tryz.ntmps82
  go_wp2_with (go_at_call 94; refine (mayB_is y D _ _ _ H.out).mono ?_; rintro e w' ⟨rfl, rfl⟩)
  go_ret
  exact ⟨rfl, rfl⟩

set_option maxRecDepth 100000 in
set_option maxHeartbeats 1000000 in
theorem Barrier_falls (y : Lay) (D : Dsk) (w : World) (h : IsD w y D) (hm : D.mayB = 0) (hf : D.fallsNow = true) :
    Calls Tryz.prog 82 #[.pointer (some ⟨y.p, 0, none⟩)] w fun e w' => e = .returned (.int .i64 3) ∧ Goes y w (D.crash D.keep) w' := by
  have hon := mayB_on hm
  have H := Lib.hid (And.intro h (And.intro hm (And.intro hf hon)))
  clear h hm hf hon
  go_enter Tryz.func82, Tryz.ntmps82
  go_wp2_with (first
    | (go_at_call 94; refine (mayB_is y D _ _ _ H.out.1).mono ?_; rintro e w' ⟨rfl, rfl⟩; rw [H.out.2.1])
    | (go_at_call 96; refine (falls_yes y D _ H.out.1 H.out.2.2.1).mono ?_; rintro e w' ⟨rfl, rfl⟩)
    | (go_at_call 97; refine (fall_is y D _ H.out.1 H.out.2.2.2).mono ?_; rintro e w' ⟨rfl, hg⟩))
  go_ret
  exact ⟨rfl, hg⟩

attribute [local go_sem ↓] load_write
set_option maxRecDepth 100000 in
set_option maxHeartbeats 1000000 in
theorem Barrier_ok (y : Lay) (D : Dsk) (w : World) (h : IsD w y D) (hm : D.mayB = 0) (hf : D.fallsNow = false) (hdd : D.deeds + 1 < 2 ^ 60) :
    Calls Tryz.prog 82 #[.pointer (some ⟨y.p, 0, none⟩)] w fun e w' => e = .returned (.int .i64 0) ∧ Goes y w D.down.bar w' := by
  have hdown : D.down.deeds = D.deeds := by unfold Dsk.down; split <;> rfl
  rw [← hdown] at hdd
  clear hdown
  generalize hE : D.down = E at *
  have H := Lib.hid (And.intro h (And.intro hm (And.intro hf hE)))
  clear h hm hf hE
  go_enter Tryz.func82, Tryz.ntmps82
  go_wp2_with (first
    | (go_at_call 94; refine (mayB_is y D _ _ _ H.out.1).mono ?_; rintro e w' ⟨rfl, rfl⟩; rw [H.out.2.1])
    | (go_at_call 96; refine (falls_no y D _ H.out.1 H.out.2.2.1).mono ?_; rintro e w1 ⟨rfl, I1, o1⟩
       rw [H.out.2.2.2] at I1
       have c4 := I1.head.c4
       have hwB := I1.shp.waitsB
       have hwa : 0 < E.waits.length → y.wa = some ⟨y.W, 0, none⟩ := fun q => (I1.wait_at (List.getElem?_eq_getElem q)).1
       generalize hwv : y.wa = wa at *
       have HI := Lib.hid (And.intro I1 (And.intro o1 (And.intro hwa hwv)))
       clear I1 o1 hwa hwv))
  clear c4
  go_loopw [20] (fun i wr => ∃ k : Nat, k ≤ E.waits.length ∧ i = .int .i64 (k : Int) ∧ IsD wr y { E with lasts := E.barL k } ∧ Only y.three w1 wr) (fun i _ => E.waits.length - (intOf i).toNat)
  case atStart => exact ⟨0, Nat.zero_le _, rfl, HI.out.1, Only.refl _ _⟩
  case round =>
    obtain ⟨k, hkn, rfl, I, ho⟩ := hrel
    by_cases hlt : k < E.waits.length
    · obtain rfl : wa = some ⟨y.W, 0, none⟩ := HI.out.2.2.1 (by omega)
      have hx : E.waits[k]? = some E.waits[k] := List.getElem?_eq_getElem hlt
      have hxs : (E.waits[k]).2.size = 32 := (HI.out.1.shp.blkW _ (List.getElem_mem hlt)).1
      have hxk : (E.waits[k]).1 < E.lasts.length := (HI.out.1.shp.blkW _ (List.getElem_mem hlt)).2
      have hwr := (I.wait_at (k := k) hx).2
      have HX := Lib.hid hx
      clear hx
      generalize E.waits[k] = x at *
      have hl33 : (wcells x).length = 33 := by rw [wcells_len, hxs]
      have hrow : isRow wr (.pointer (some ⟨y.W, k * 33, none⟩)) 33 := ⟨_, _, _, rfl, hwr, hl33⟩
      have hval : (rowAt wr (.pointer (some ⟨y.W, k * 33, none⟩)) 33).toArray = warr (.int .i64 (x.1 : Int)) (bcells x.2) := by
        rw [rowAt_eq hwr hl33]; rfl
      have hw1 : (warr (.int .i64 (x.1 : Int)) (bcells x.2)).all (·.oneCell') = true := all_oneCell_toArray (wcells_one x)
      have hwi : (Tryz.prog.info? 77).map (·.size) = some (warr (.int .i64 (x.1 : Int)) (bcells x.2)).size := by rw [warr_size, bcells_len, hxs]; exact writeSize
      have hws : 33 = (warr (.int .i64 (x.1 : Int)) (bcells x.2)).size := by rw [warr_size, bcells_len, hxs]
      have HR := Lib.hid (And.intro I (And.intro ho (And.intro hw1 (And.intro hwi (And.intro hws (And.intro hxs hxk))))))
      clear I ho hw1 hwi hws hwr hl33 hxs hxk
      go_wp2_with (refine wpList_store_new rfl 77 (.tmp 5) (.tmp 23) rfl _ (warr (.int .i64 (x.1 : Int)) (bcells x.2)) rfl rfl HR.out.2.2.2.1 HR.out.2.2.2.2.1 HR.out.2.2.1 ?_)
      have I2 := HR.out.1.alloc (.cells (warr (.int .i64 (x.1 : Int)) (bcells x.2)) 77)
      have o2 := HR.out.2.1.alloc (.cells (warr (.int .i64 (x.1 : Int)) (bcells x.2)) 77)
      have hxs := HR.out.2.2.2.2.2.1
      have hxk := HR.out.2.2.2.2.2.2
      have r2 : (wr.alloc (.cells (warr (.int .i64 (x.1 : Int)) (bcells x.2)) 77)).rangeAt wr.heap.size 0 (.int .i64 (x.1 : Int) :: bcells x.2) := by
        have := World.rangeAt_of_block (heap_alloc_last wr (.cells (warr (.int .i64 (x.1 : Int)) (bcells x.2)) 77)) 0 33
        have e : (warr (.int .i64 (x.1 : Int)) (bcells x.2)).extract 0 (0 + 33) = warr (.int .i64 (x.1 : Int)) (bcells x.2) := by
          rw [Array.extract_eq_self_of_le]
          have := HR.out.2.2.2.2.1
          omega
        rw [e, warr_list] at this
        exact this
      have hLs : y.L < wr.heap.size := HR.out.1.small y.L (.inr (.inl rfl))
      generalize wr.alloc (.cells (warr (.int .i64 (x.1 : Int)) (bcells x.2)) 77) = w2 at *
      have hbL : wr.heap.size ≠ y.L := by omega
      generalize wr.heap.size = blk at *
      have r20 : w2.cell? ⟨blk, 0, none⟩ = some (.int .i64 (x.1 : Int)) := by simpa using r2 0 _ rfl
      have r21 : w2.rangeAt blk 1 (bcells x.2) := fun j v hv => by
        have := r2 (j + 1) v (by simpa using hv)
        rw [Nat.zero_add, Nat.add_comm] at this
        exact this
      have hlen := barL_len E k
      have c2 := I2.head.c2
      change w2.cell? ⟨y.p, 2, none⟩ = some (.slice y.la (E.barL k).length y.cL) at c2
      rw [hlen, show y.la = some ⟨y.L, 0, none⟩ from HI.out.1.shp.laE (by omega)] at c2
      have t2 : w2.there y.L (x.1 * 32) 32 := fun j hj => by
        have := I2.bod.tL (x.1 * 32 + j) (by rw [show ({ E with lasts := E.barL k } : Dsk).lasts.length = E.lasts.length from hlen]; have := Nat.mul_le_mul_right 32 (show x.1 + 1 ≤ E.lasts.length from hxk); omega)
        rw [Nat.zero_add] at this
        exact this
      have hpL : y.p ≠ y.L := fun e => (HI.out.1.shp.nL (by omega)).1 e.symm
      have hu63 := Tryz.underlying75
      have h1b := bcells_one x.2
      have hlenb : (bcells x.2).length = 32 := by rw [bcells_len, hxs]
      have hi63 : (Tryz.prog.info? 75).map (·.size) = some (bcells x.2).length := by rw [hlenb]; exact blockSize
      have HK := Lib.hid (And.intro I2 (And.intro o2 (And.intro hxs hlen)))
      clear I2 o2 hxs hlen r2
      go_region_held3 (fun w' => w'.cell? ⟨y.p, 2, none⟩ = some (.slice (some ⟨y.L, 0, none⟩) E.lasts.length y.cL) ∧ w'.cell? ⟨blk, 0, none⟩ = some (.int .i64 (x.1 : Int)) ∧ w'.rangeAt blk 1 (bcells x.2) ∧ w'.there y.L (x.1 * 32) 32) (first
        | (simp only [World.cell?_drew]; go_keep_ranges)
        | (go_split_ands; exact ⟨(World.cell?_setCells_out _ _ _ _ _ (fun e => absurd e hpL)).trans (by assumption), (World.cell?_setCells_out _ _ _ _ _ (fun e => absurd e hbL)).trans (by assumption), World.rangeAt_setCells_apart (by assumption) _ _ _ (.inl hbL), World.there_setCells (by assumption) _ _ _⟩)) (first | fail)
      go_wp2
      refine ⟨⟨k + 1, by omega, by go_num, ?_, ?_⟩, by simp [intOf]; omega⟩
      · rw [barL_step HX.out]; exact (HK.out.1.drew).set_lasts x.1 (by rw [show ({ E with lasts := E.barL k } : Dsk).lasts.length = E.lasts.length from HK.out.2.2.2]; exact hxk) x.2 HK.out.2.2.1
      · exact Only.setCells (.inl (.inr (.inl rfl))) _ _ HK.out.2.1.drew
    · obtain rfl : k = E.waits.length := by omega
      have c4 := I.head.c4
      have f4 := I.head.fz 4 (by omega)
      have c5 := I.head.c5
      have f5 := I.head.fz 5 (by omega)
      change wr.cell? ⟨y.p, 5, none⟩ = some (.int .i64 (E.deeds : Int)) at c5
      have hdd' : (E.deeds : Int) + 1 < 1152921504606846976 := by omega
      have HR := Lib.hid (And.intro I ho)
      clear I ho hlt
      go_wp2
      go_ret
      have I5 := (HR.out.1.set_noW).set_deeds (E.deeds + 1) hdd
      have o5 := (HI.out.2.1).trans ((HR.out.2.setCell (p := ⟨y.p, 4, none⟩) (.inl (.inl rfl)) (.slice none 0 0)).setCell (p := ⟨y.p, 5, none⟩) (.inl (.inl rfl)) (.int .i64 ((E.deeds + 1 : Nat) : Int))) (fun i _ q => by
        rcases q with q | q | q
        · exact .inl q
        · exact .inr (.inl q)
        · exact .inr (.inr (.inl q)))
      rw [show ((E.deeds + 1 : Nat) : Int) = (E.deeds : Int) + 1 by omega] at I5 o5
      refine ⟨rfl, y.noW, rfl, I5, ?_, o5⟩
      intro b q
      rcases q with q | q | q | q | q
      · exact .inl (.inl q)
      · exact .inl (.inr (.inl q))
      · exact .inl (.inr (.inr (.inl q)))
      · exact .inl (.inl q)
      · exact .inl (.inr (.inr (.inr (.inr q))))
end Go.Proofs.YtbcdmcafobjpcaaGreatDoor.Sec
