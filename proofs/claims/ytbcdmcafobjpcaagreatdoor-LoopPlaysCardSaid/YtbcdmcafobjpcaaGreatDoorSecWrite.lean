/- Disk.Write by its contract. -/
import Derived.Test.YtbcdmcafobjpcaaGreatDoorSecFall
namespace Go.Proofs.YtbcdmcafobjpcaaGreatDoor.Sec
open Go.RowKit

/-- A write more. -/
def Dsk.push (D : Dsk) (k : Nat) (b : ByteArray) : Dsk := { D with now := D.now.set k b, waits := D.waits ++ [(k, b)] }
/-- A deed more. -/
def Dsk.deed (D : Dsk) : Dsk := { D with deeds := D.deeds + 1 }
theorem down_deeds (D : Dsk) : D.down.deeds = D.deeds := by unfold Dsk.down; split <;> rfl
theorem mayW_on {D : Dsk} {m : Nat} {b : ByteArray} (h : D.mayW m b = 0) : D.on = true := by
  unfold Dsk.mayW at h
  split at h
  · assumption
  · cases h
theorem mayW_lt {D : Dsk} {m : Nat} {b : ByteArray} (h : D.mayW m b = 0) : m < D.lasts.length := by
  unfold Dsk.mayW Dsk.has at h
  split at h
  · split at h
    · rename_i q
      simp at q
      omega
    · cases h
  · cases h

attribute [local go_sem ↓] load_write buildSlice_op
set_option maxRecDepth 100000 in
set_option maxHeartbeats 1000000 in
theorem Write_ok (y : Lay) (D : Dsk) (m : Nat) (b : ByteArray) (hb : b.size = 32) (w : World) (h : IsD w y D) (hm : D.mayW m b = 0) (hwc : D.waits.length + 1 < 2 ^ 40) (hdd : D.deeds + 1 < 2 ^ 60) :
    Calls Tryz.prog 80 #[.pointer (some ⟨y.p, 0, none⟩), .int .i64 (m : Int), .string b] w fun e w' => (D.fallsNow = true ∧ e = .returned (.int .i64 3) ∧ Goes y w ((D.push m b).crash D.keep) w') ∨ (D.fallsNow = false ∧ e = .returned (.int .i64 0) ∧ Goes y w ((D.push m b).down.deed) w') := by
  have H := Lib.hid h
  have hdd' := hdd
  have HM := Lib.hid hm
  have HB := Lib.hid (show (bcells b).length = 32 by rw [bcells_len, hb])
  have hw1 : (warr (.int .i64 (m : Int)) (bcells b)).all (·.oneCell') = true := all_oneCell_toArray (wcells_one (m, b))
  have hwi : (Tryz.prog.info? 77).map (·.size) = some (warr (.int .i64 (m : Int)) (bcells b)).size := by rw [warr_size, bcells_len, hb]; exact writeSize
  have hws : 33 = (warr (.int .i64 (m : Int)) (bcells b)).size := by rw [warr_size, bcells_len, hb]
  have HH := Lib.hid (And.intro hw1 (And.intro hwi hws))
  clear hm h hw1 hwi hws
  go_enter Tryz.func80, Tryz.ntmps80
  go_wp2_with (first
    | (go_at_call 94; refine (mayW_is y D _ _ _ H.out).mono ?_; rintro e w' ⟨rfl, rfl⟩; rw [HM.out])
    | (go_at_call 95; refine (blockOf_is b hb _).mono ?_; rintro e w1 ⟨rfl, ho1⟩)
    | (refine wpList_build_write rfl (.tmp 16) (.tmp 18) rfl (m : Int) (bcells b) rfl rfl HB.out ?_)
    | (refine wpList_store_new rfl 77 (.tmp 8) (.tmp 19) rfl _ (warr (.int .i64 (m : Int)) (bcells b)) rfl rfl HH.out.2.1 HH.out.2.2 HH.out.1 ?_))
  have I1 : IsD w1 y D := H.out.only ho1 (fun _ _ q => q)
  have hk : m < D.lasts.length := mayW_lt HM.out
  have hmN : m < D.now.length := by rw [I1.shp.len]; exact hk
  have I2 : IsD (w1.alloc (.cells (warr (.int .i64 (m : Int)) (bcells b)) 77)) y D := I1.alloc _
  have r2 : (w1.alloc (.cells (warr (.int .i64 (m : Int)) (bcells b)) 77)).rangeAt w1.heap.size 0 (.int .i64 (m : Int) :: bcells b) := by
    have := World.rangeAt_of_block (heap_alloc_last w1 (.cells (warr (.int .i64 (m : Int)) (bcells b)) 77)) 0 33
    have e : (warr (.int .i64 (m : Int)) (bcells b)).extract 0 (0 + 33) = warr (.int .i64 (m : Int)) (bcells b) := by
      rw [Array.extract_eq_self_of_le]
      have := HH.out.2.2
      omega
    rw [e, warr_list] at this
    exact this
  have o2 : Only y.foot w' (w1.alloc (.cells (warr (.int .i64 (m : Int)) (bcells b)) 77)) := (ho1.mono (fun _ _ q => q.elim)).alloc _
  have hblk : w'.heap.size ≤ w1.heap.size := ho1.size
  have hlt2 : w1.heap.size < (w1.alloc (.cells (warr (.int .i64 (m : Int)) (bcells b)) 77)).heap.size := by simp
  generalize w1.alloc (.cells (warr (.int .i64 (m : Int)) (bcells b)) 77) = w2 at *
  generalize w1.heap.size = blk at *
  have r21 : w2.rangeAt blk 1 (bcells b) := fun j v hv => by
    have := r2 (j + 1) v (by simpa using hv)
    rw [Nat.zero_add, Nat.add_comm] at this
    exact this
  have c3 := I2.head.c3
  rw [I2.shp.naE (by omega)] at c3
  have t2 : w2.there y.N (m * 32) 32 := fun j hj => by
    have := I2.bod.tN (m * 32 + j) (by have := Nat.mul_le_mul_right 32 (show m + 1 ≤ D.lasts.length from hk); omega)
    rw [Nat.zero_add] at this
    exact this
  have hu63 := Tryz.underlying75
  have hi63 : (Tryz.prog.info? 75).map (·.size) = some (bcells b).length := by rw [HB.out]; exact blockSize
  have h1b := bcells_one b
  have hlenb : (bcells b).length = 32 := HB.out
  have hpN : y.p ≠ y.N := fun e => (I2.shp.nL (by omega)).2.1 e.symm
  have hbN : blk ≠ y.N := by have := H.out.small y.N (.inr (.inr (.inl rfl))); omega
  have HK := Lib.hid (And.intro I2 (And.intro r2 (And.intro o2 (And.intro hblk hlt2))))
  clear I1 ho1 r2 o2 hblk hlt2 I2
  go_region_held3 (fun w' => w'.cell? ⟨y.p, 3, none⟩ = some (.slice (some ⟨y.N, 0, none⟩) D.now.length y.cN) ∧ w'.rangeAt blk 1 (bcells b) ∧ w'.there y.N (m * 32) 32) (first
    | go_keep_ranges
    | (go_split_ands; exact ⟨(World.cell?_setCells_out _ _ _ _ _ (fun e => absurd e hpN)).trans (by assumption), World.rangeAt_setCells_apart (by assumption) _ _ _ (.inl hbN), World.there_setCells (by assumption) _ _ _⟩)) (first | fail)
  obtain ⟨I2, r2, o2, hblk, hlt2⟩ := HK.out
  have I3 := (I2.drew).set_now m hk b hb
  have r3 : (w2.drew.setCells y.N (m * 32) (bcells b)).rangeAt blk 0 (.int .i64 (m : Int) :: bcells b) := World.rangeAt_setCells_apart ((World.rangeAt_drew _ _ _ _).2 r2) _ _ _ (.inl hbN)
  have o3 : Only y.foot w' (w2.drew.setCells y.N (m * 32) (bcells b)) := Only.setCells (.inl (.inr (.inr (.inl rfl)))) _ _ o2.drew
  have hlt3 : blk < (w2.drew.setCells y.N (m * 32) (bcells b)).heap.size := by rw [size_setCells']; exact hlt2
  rename_i hheld
  clear hheld I2 r2 o2 hlt2 HK r21 c3 t2 hu63 hi63 h1b hlenb hpN hbN
  generalize w2.drew.setCells y.N (m * 32) (bcells b) = w3 at *
  have c4 := I3.head.c4
  have f4 := I3.head.fz 4 (by omega)
  have hbs := buildSlice_write (m : Int) (bcells b) HB.out
  obtain ⟨hA1, hAi, hAs⟩ := HH.out
  have hwl := warr_list (.int .i64 (m : Int)) (bcells b)
  rw [← hwl] at r3
  have hwc : (warr (.int .i64 (m : Int)) (bcells b)).toList = wcells (m, b) := hwl
  have HW := Lib.hid hwc
  clear hwl hwc HH
  generalize warr (.int .i64 (m : Int)) (bcells b) = A at *
  obtain ⟨i0, hi0, hz0, hz1, hz2⟩ := info_parts writeInfo
  have hA1' : ∀ v ∈ A.toList, v.oneCell' = true := fun v hv => (Array.all_eq_true_iff_forall_mem.1 hA1) v (by simpa using hv)
  have hu66 := Tryz.underlying77
  have hi66 : (Tryz.prog.info? 77).map (·.size) = some A.toList.length := by simpa using hAi
  have hl66 : A.toList.length = 33 := by simpa using hAs.symm
  have own3 := I3.bod.oW
  have hps := I3.small y.p (.inl rfl)
  have hwB := I3.shp.waitsB
  have HO := Lib.hid (And.intro own3 (And.intro hi0 (And.intro hz0 (And.intro hz1 hz2))))
  have hWs := I3.small y.W (.inr (.inr (.inr (.inl rfl))))
  have hWp := I3.shp.nW
  have hob : ∀ k, Value.ownBlock (.slice y.wa D.waits.length y.cW) = some k → k = y.W ∧ y.wa ≠ none := fun k hk => by
    rcases I3.shp.waE with q | q
    · rw [q] at hk; simp [Value.ownBlock] at hk
    · rw [q] at hk ⊢; simp [Value.ownBlock] at hk; exact ⟨hk.symm, by simp⟩
  have HK := Lib.hid (And.intro I3 (And.intro o3 (And.intro hblk (And.intro hlt3 (And.intro hAi (And.intro hAs (And.intro hWp (And.intro hob hWs))))))))
  clear I3 o3 hblk own3 hi0 hz0 hz1 hz2 hA1 hAi hAs hWp hob
  go_wp2
  have r4 : w3.drew.rangeAt blk 0 A.toList := (World.rangeAt_drew _ _ _ _).2 r3
  have hrow : isRow w3.drew (.pointer (some ⟨blk, 0, none⟩)) 33 := ⟨_, _, _, rfl, r4, hl66⟩
  have hval : (rowAt w3.drew (.pointer (some ⟨blk, 0, none⟩)) 33).toArray = A := by rw [rowAt_eq r4 hl66]
  have HA := Lib.hid (And.intro hA1' hl66)
  have hagg : isAgg (.agg A) 33 := ⟨A, rfl, by simpa using hl66⟩
  clear hbs
  clear hA1' hl66 r4 r3 hu66 hi66
  have hpne : some y.p ≠ Value.ownBlock (.slice y.wa D.waits.length y.cW) := fun e => by
    obtain ⟨_, _, _, _, _, _, hWp, hob, _⟩ := HK.out
    obtain ⟨q1, q2⟩ := hob _ e.symm
    exact (hWp q2).1 q1.symm
  go_region_law (first
    | (refine step_append_lies _ rfl (.tmp 32) (.tmp 34) 57 rfl 0 77 i0 _ 33 40 Tryz.underlying57 HO.out.2.1 HO.out.2.2.1 HO.out.2.2.2.1 HO.out.2.2.2.2 (by rfl) (by omega)
        (.slice y.wa D.waits.length y.cW) D.waits.length (D.waits.flatMap wcells) rfl (by exact (HO.out.1.alloc _).drew) _ 1 1 A.toList rfl (by rw [HA.out.2]) (by exact World.news_of_block (heap_alloc_last _ _)) HA.out.1 (by omega) (by unfold maxLen; omega) (by omega) (by omega) _ rfl ?_
       intro g cap w4 hown4 hgr4 hat4 hlt4
       have b4 := hgr4.block y.p (by simp; omega) hpne
       have d4 : w4.cell? ⟨y.p, 4, none⟩ = some (.slice y.wa D.waits.length y.cW) := (World.cell?_of_block (a := ⟨y.p, 4, none⟩) b4).trans (by exact ((HK.out.1.alloc _).drew).head.c4)
       have g4 : w4.frozen? ⟨y.p, 4, none⟩ = false := (World.frozen?_of_block (a := ⟨y.p, 4, none⟩) b4).trans (by exact ((HK.out.1.alloc _).drew).head.fz 4 (by omega))))
  all_goals
    have hB1 : D.waits.length + 1 < 2 ^ 40 := hwc
    rw [HW.out] at hown4
    have PW := IsD.push_waits ((HK.out.1.alloc (.cells A 77)).drew) (m, b) ⟨hb, hk⟩ hB1 g cap hown4 hgr4 (hat4.imp id (fun e => by rw [e]; exact Nat.le_refl _)) hlt4
    have G : Goes y w' (D.push m b) (w4.setCell ⟨y.p, 4, none⟩ (.slice (some ⟨g, 0, none⟩) (D.waits.length + 1) cap)) :=
      ⟨y.newW g cap, rfl, PW.1, fun q hq => (PW.2.1 q hq).imp id (fun e => Nat.le_trans HK.out.2.1.size (Nat.le_trans (by simp) e)), (HK.out.2.1.alloc _).drew.trans PW.2.2 (fun _ _ q => q)⟩
    clear PW b4 d4 g4 hown4 hgr4 hat4 hlt4 hpne hagg hval hrow HA HK HO HW c4 f4
    generalize w4.setCell ⟨y.p, 4, none⟩ (.slice (some ⟨g, 0, none⟩) (D.waits.length + 1) cap) = w5 at *
    obtain ⟨y1, hp1, I5, hf5, o5⟩ := G
    have hdp : (D.push m b).deeds = D.deeds := rfl
    have hon : (D.push m b).on = true := mayW_on HM.out
    have HP := Lib.hid (And.intro hp1 (And.intro I5 (And.intro hf5 (And.intro o5 hon))))
    clear I5 hf5 o5 hdp hon
    cases hfl : D.fallsNow
    · have HF := Lib.hid (show (D.push m b).fallsNow = false from hfl)
      have hpd : (D.push m b).down.deeds = D.deeds := down_deeds _
      generalize hE : (D.push m b).down = E at *
      have HE := Lib.hid (And.intro hE hpd)
      clear hfl hE hp1 hpd
      go_wp2_with (go_at_call 96; have hcf := falls_no y1 (D.push m b) _ HP.out.2.1 HF.out; rw [HP.out.1] at hcf; refine hcf.mono ?_; rintro e w6 ⟨rfl, I6, o6⟩; rw [HE.out.1] at I6; have c5 := I6.head.c5; have f5 := I6.head.fz 5 (by omega); rw [HP.out.1, HE.out.2] at c5; rw [HP.out.1] at f5; have H6 := Lib.hid (And.intro I6 o6); clear I6 o6 hcf)
      go_ret
      refine .inr ⟨HF.out, rfl, ?_⟩
      refine Goes.fold HP.out.1 HP.out.2.2.1 HP.out.2.2.2.1 ?_
      have I7 := H6.out.1.set_deeds (D.deeds + 1) hdd
      rw [show ((D.deeds + 1 : Nat) : Int) = (D.deeds : Int) + 1 by omega, HP.out.1] at I7
      refine ⟨y1, rfl, ?_, fun _ q => .inl q, H6.out.2.setCell (.inl (.inl HP.out.1.symm)) _⟩
      have e : ({ E with deeds := D.deeds + 1 } : Dsk) = E.deed := by rw [Dsk.deed, HE.out.2]
      rw [HE.out.1, ← e]
      exact I7
    · have HF := Lib.hid (show (D.push m b).fallsNow = true from hfl)
      clear hfl hp1
      go_wp2_with (first
        | (go_at_call 96; have hcf := falls_yes y1 (D.push m b) _ HP.out.2.1 HF.out; rw [HP.out.1] at hcf; refine hcf.mono ?_; rintro e w6 ⟨rfl, rfl⟩; clear hcf)
        | (go_at_call 97; have hcf := fall_is y1 (D.push m b) _ HP.out.2.1 HP.out.2.2.2.2; rw [HP.out.1] at hcf; refine hcf.mono ?_; rintro e w6 ⟨rfl, hg⟩; clear hcf))
      go_ret
      exact .inl ⟨HF.out, rfl, Goes.fold HP.out.1 HP.out.2.2.1 HP.out.2.2.2.1 hg⟩

set_option maxRecDepth 100000 in
set_option maxHeartbeats 1000000 in
theorem Write_not (y : Lay) (D : Dsk) (k : Int) (b : ByteArray) (w : World) (h : IsD w y D) (hm : D.mayW k b ≠ 0) :
    Calls Tryz.prog 80 #[.pointer (some ⟨y.p, 0, none⟩), .int .i64 k, .string b] w fun e w' => e = .returned (.int .i64 (D.mayW k b)) ∧ w' = w := by
  have hb : (D.mayW k b == 0) = false := by simpa using hm
  have hb' : (D.mayW k b != 0) = true := by simpa using hm
  have H := Lib.hid h
  clear h hm
  go_enter Tryz.func80, Tryz.ntmps80
  go_wp2_with (go_at_call 94; refine (mayW_is y D _ _ _ H.out).mono ?_; rintro e w' ⟨rfl, rfl⟩)
  go_ret
  exact ⟨rfl, rfl⟩
end Go.Proofs.YtbcdmcafobjpcaaGreatDoor.Sec
