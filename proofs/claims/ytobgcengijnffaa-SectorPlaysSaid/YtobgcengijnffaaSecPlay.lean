/- SectorPlays' walk. -/
import Derived.Test.YtobgcengijnffaaSecKeep
import Derived.Test.YtobgcengijnffaaSecArming
import Derived.Deep.RegionHeld3
import Derived.Deep.DeepCutAuto
namespace Go.Proofs.Ytobgcengijnffaa
open Go.RowKit

set_option maxRecDepth 100000 in
set_option maxHeartbeats 4000000 in
theorem Plays_walk (n : Int) (l : List OpV) (a2 : Option Addr) (c2 : Nat) (w : World) (hn : n ≤ 40) (hl : l.length ≤ 60) (ho : OpsAt w.heap.size w a2 l) :
    Calls Try.prog 3 #[.int .i64 n, .slice a2 l.length c2] w fun e w' => e = .returned (.bool true) ∧ Below w.heap.size w w' := by
  have d1 : decide ((40 : Int) < n) = false := decide_eq_false (by omega)
  have d2 : decide ((60 : Int) < (l.length : Int)) = false := decide_eq_false (by omega)
  have HO := Lib.hid ho
  clear ho
  go_enter Try.func3, Try.ntmps3
  go_wp2_with (first
    | (go_at_call 8; refine (alive_is _).mono ?_; rintro e w1 ⟨rfl, b1⟩)
    | (go_at_call 9; refine (New_at n w.heap.size _ b1.size).mono ?_; rintro e w2 ⟨p, rfl, h2, b2⟩; have B2 := b1.trans b2; have HA := Lib.hid h2; clear h2 b1 b2)
    | (go_at_call 10; refine (Disks_duo HA.out n hn).mono ?_; rintro e w3 ⟨q, rfl, h3, b3⟩; have B3 := B2.trans b3; have HD := Lib.hid h3; clear h3 B2 b3)
    | (go_at_call 11; refine (Is_duo HD.out (by rw [show (min (max n 0) 3000).toNat = (max n 0).toNat by omega]; exact Sim.new _)).mono ?_; rintro e w4 ⟨rfl, m, rfl⟩))
  have HD2 := Lib.hid (show Duo w.heap.size (w3.drewN m) p q (newD (max n 0).toNat) (newR (max n 0).toNat) from by
    have := HD.out.drewN m
    rwa [show (min (max n 0) 3000).toNat = (max n 0).toNat by omega] at this)
  have B4 : Below w.heap.size w (w3.drewN m) := ⟨B3.os, B3.tape, B3.output, B3.size, B3.block⟩
  clear HA HD B3
  go_loopw [5, 7] (fun d i wr => ∃ (k p' : Nat) (D : Dsk) (R : Rsk), k ≤ l.length ∧ i = .int .i64 (k : Int) ∧ d = .pointer (some ⟨p', 0, none⟩) ∧ Duo w.heap.size wr p' q D R ∧ Inv k D R ∧ Below w.heap.size w wr) (fun _ i _ => l.length - (intOf i).toNat)
  case atStart => exact ⟨0, p, _, _, Nat.zero_le _, rfl, rfl, HD2.out, Inv.new _, B4⟩
  case round =>
    obtain ⟨k, p', D, R, hk, rfl, rfl, hd, hv, hb⟩ := hrel
    by_cases hlt : k < l.length
    · have hx : l[k]? = some l[k] := List.getElem?_eq_getElem hlt
      have hops := HO.out.below hb
      obtain ⟨g, f, ha2, hgB, hcells, hlow, hk63, hbs⟩ := hops k _ hx
      clear hops hx
      generalize l[k] = o at *
      have q0 : wr.cell? ⟨g, f + k * 5, none⟩ = some (.int .i64 o.kind) := by simpa using hcells 0 _ rfl
      have q1 : wr.cell? ⟨g, f + k * 5 + 1, none⟩ = some (.int .i64 o.k) := hcells 1 _ rfl
      have q2 : wr.cell? ⟨g, f + k * 5 + 2, none⟩ = some (.string o.b) := hcells 2 _ rfl
      have q3 : wr.cell? ⟨g, f + k * 5 + 3, none⟩ = some (.bool o.full) := hcells 3 _ rfl
      have q4 : wr.cell? ⟨g, f + k * 5 + 4, none⟩ = some (.slice o.ka o.kl.length o.kc) := hcells 4 _ rfl
      have HA := Lib.hid (And.intro hgB (And.intro hlow (And.intro hk63 hbs)))
      have HV := Lib.hid (And.intro hd (And.intro hv hb))
      clear hcells hgB hlow hk63 hbs hd hv hb HD2 B4 HO
      subst ha2
      by_cases hbig : 100 < o.b.size
      · have hb1 : decide ((100 : Int) < (o.b.size : Int)) = true := decide_eq_true (by omega)
        clear hbig
        go_wp2
        go_ret
        exact ⟨rfl, HV.out.2.2.alloc HV.out.1.le _⟩
      · have hb1 : decide ((100 : Int) < (o.b.size : Int)) = false := decide_eq_false (by omega)
        by_cases hbig2 : 60 < o.kl.length
        · have hb2 : decide ((60 : Int) < (o.kl.length : Int)) = true := decide_eq_true (by omega)
          clear hbig hbig2
          go_wp2
          go_ret
          exact ⟨rfl, HV.out.2.2.alloc HV.out.1.le _⟩
        · have hb2 : decide ((60 : Int) < (o.kl.length : Int)) = false := decide_eq_false (by omega)
          have HS := Lib.hid (And.intro hbig hbig2)
          clear hbig hbig2
          have hkind : o.kind = 1 ∨ o.kind = 2 ∨ o.kind = 3 ∨ o.kind = 4 ∨ o.kind = 5 ∨ o.kind = 6 ∨ o.kind = 7 ∨ (o.kind < 1 ∨ 7 < o.kind) := by omega
          rcases hkind with hk | hk | hk | hk | hk | hk | hk | hk
          · as_aux_lemma =>
              rw [hk] at q0
              cases hfull : o.full
              · rw [hfull] at q3
                have hon : (D.write o.k o.b).2 = (R.write o.k o.b).2 := (HV.out.2.1.write o.k o.b).2
                generalize hro : (R.write o.k o.b).2 = bb at *
                have HR := Lib.hid (And.intro hon hro)
                have HF := Lib.hid (And.intro hk hfull)
                clear hk hfull hon hro
                go_wp2_with (go_at_call 12; refine (Full_is o.b HA.out.2.2.2 _).mono ?_; rintro e w' ⟨rfl, rfl⟩)
                go_region_held3 (fun u => u.cell? ⟨wr.heap.size, 1, none⟩ = some (.int .i64 o.k) ∧ u.cell? ⟨wr.heap.size, 2, none⟩ = some (.string o.b)) (first
                  | (simp only [World.cell?_drew]; refine ⟨?_, ?_⟩ <;> go_simp)
                  | (go_split_ands; exact ⟨(k6.cell ⟨wr.heap.size, 1, none⟩ rfl).trans (by assumption), (k6.cell ⟨wr.heap.size, 2, none⟩ rfl).trans (by assumption)⟩)
                  | (go_split_ands; exact ⟨(k7.cell ⟨wr.heap.size, 1, none⟩ rfl).trans (by assumption), (k7.cell ⟨wr.heap.size, 2, none⟩ rfl).trans (by assumption)⟩)) (first
                  | (go_at_call 13; refine (Write_keep (by first | exact (HV.out.1.keep_alloc _).drew | exact (HV.out.1.keep_copy _ _ _).drew) o.k o.b (by have := HV.out.2.1.waits; omega) (by have := HV.out.2.1.deeds; omega)).mono ?_; rintro e w6 ⟨rfl, h6, b6, k6⟩; rw [HR.out.1]; have H6 := Lib.hid (And.intro h6 b6); clear h6 b6)
                  | (go_at_call 14; refine (rWrite_keep H6.out.1 o.k o.b (by have := HV.out.2.1.rwaits; omega) (by have := HV.out.2.1.rdeeds; omega)).mono ?_; rintro e w7 ⟨rfl, h7, b7, k7⟩; rw [HR.out.2]; have H7 := Lib.hid (And.intro h7 b7); clear h7 b7))
                go_wp2_with (go_at_call 11; refine (Is_duo H7.out.1.duo (HV.out.2.1.write o.k o.b).1.sim).mono ?_; rintro e w8 ⟨rfl, m8, rfl⟩)
                have b7 := H6.out.2.trans H7.out.2
                have b8 : Below w.heap.size w w7 := (by first | exact (HV.out.2.2.alloc HV.out.1.le _).drew | exact (HV.out.2.2.copy HV.out.1.le _ _ _).drew : Below w.heap.size w _).trans b7
                exact ⟨⟨k + 1, p', _, _, by omega, by go_num, rfl, H7.out.1.duo.drewN m8, (HV.out.2.1.write o.k o.b).1, ⟨b8.os, b8.tape, b8.output, b8.size, b8.block⟩⟩, by simp [intOf]; omega⟩
              · rw [hfull] at q3
                have hon : (D.write o.k (pad32 o.b)).2 = (R.write o.k (pad32 o.b)).2 := (HV.out.2.1.write o.k (pad32 o.b)).2
                generalize hro : (R.write o.k (pad32 o.b)).2 = bb at *
                have HR := Lib.hid (And.intro hon hro)
                have HF := Lib.hid (And.intro hk hfull)
                clear hk hfull hon hro
                go_wp2_with (go_at_call 12; refine (Full_is o.b HA.out.2.2.2 _).mono ?_; rintro e w' ⟨rfl, rfl⟩)
                go_region_held3 (fun u => u.cell? ⟨wr.heap.size, 1, none⟩ = some (.int .i64 o.k) ∧ u.cell? ⟨wr.heap.size, 2, none⟩ = some (.string (pad32 o.b))) (first
                  | (simp only [World.cell?_drew]; refine ⟨?_, ?_⟩ <;> go_simp)
                  | (go_split_ands; exact ⟨(k6.cell ⟨wr.heap.size, 1, none⟩ rfl).trans (by assumption), (k6.cell ⟨wr.heap.size, 2, none⟩ rfl).trans (by assumption)⟩)
                  | (go_split_ands; exact ⟨(k7.cell ⟨wr.heap.size, 1, none⟩ rfl).trans (by assumption), (k7.cell ⟨wr.heap.size, 2, none⟩ rfl).trans (by assumption)⟩)) (first
                  | (go_at_call 13; refine (Write_keep (by first | exact (HV.out.1.keep_alloc _).drew | exact (HV.out.1.keep_copy _ _ _).drew) o.k (pad32 o.b) (by have := HV.out.2.1.waits; omega) (by have := HV.out.2.1.deeds; omega)).mono ?_; rintro e w6 ⟨rfl, h6, b6, k6⟩; rw [HR.out.1]; have H6 := Lib.hid (And.intro h6 b6); clear h6 b6)
                  | (go_at_call 14; refine (rWrite_keep H6.out.1 o.k (pad32 o.b) (by have := HV.out.2.1.rwaits; omega) (by have := HV.out.2.1.rdeeds; omega)).mono ?_; rintro e w7 ⟨rfl, h7, b7, k7⟩; rw [HR.out.2]; have H7 := Lib.hid (And.intro h7 b7); clear h7 b7))
                go_wp2_with (go_at_call 11; refine (Is_duo H7.out.1.duo (HV.out.2.1.write o.k (pad32 o.b)).1.sim).mono ?_; rintro e w8 ⟨rfl, m8, rfl⟩)
                have b7 := H6.out.2.trans H7.out.2
                have b8 : Below w.heap.size w w7 := (by first | exact (HV.out.2.2.alloc HV.out.1.le _).drew | exact (HV.out.2.2.copy HV.out.1.le _ _ _).drew : Below w.heap.size w _).trans b7
                exact ⟨⟨k + 1, p', _, _, by omega, by go_num, rfl, H7.out.1.duo.drewN m8, (HV.out.2.1.write o.k (pad32 o.b)).1, ⟨b8.os, b8.tape, b8.output, b8.size, b8.block⟩⟩, by simp [intOf]; omega⟩
          · as_aux_lemma =>
              rw [hk] at q0
              have hon : D.barrier.2 = R.barrier.2 := HV.out.2.1.barrier.2
              generalize hro : R.barrier.2 = bb at *
              have HR := Lib.hid (And.intro hon hro)
              cases hfull : o.full
              all_goals
                rw [hfull] at q3
                have HF := Lib.hid (And.intro hk hfull)
                clear hk hfull hon hro
                go_wp2_with (first
                  | (go_at_call 12; refine (Full_is o.b HA.out.2.2.2 _).mono ?_; rintro e w' ⟨rfl, rfl⟩)
                  | (go_at_call 15; refine (Barrier_duo (by first | exact HV.out.1.alloc _ | exact HV.out.1.copy _ _ _) (by have := HV.out.2.1.deeds; omega)).mono ?_; rintro e w6 ⟨rfl, h6, b6⟩; rw [HR.out.1]; have H6 := Lib.hid (And.intro h6 b6); clear h6 b6)
                  | (go_at_call 16; refine (rBarrier_duo H6.out.1 (by have := HV.out.2.1.rdeeds; omega)).mono ?_; rintro e w7 ⟨rfl, h7, b7⟩; rw [HR.out.2]; have H7 := Lib.hid (And.intro h7 b7); clear h7 b7)
                  | (go_at_call 11; refine (Is_duo H7.out.1 HV.out.2.1.barrier.1.sim).mono ?_; rintro e w8 ⟨rfl, m8, rfl⟩))
                have b7 := H6.out.2.trans H7.out.2
                have b8 : Below w.heap.size w w7 := (by first | exact HV.out.2.2.alloc HV.out.1.le _ | exact HV.out.2.2.copy HV.out.1.le _ _ _ : Below w.heap.size w _).trans b7
                exact ⟨⟨k + 1, p', _, _, by omega, by go_num, rfl, H7.out.1.drewN m8, HV.out.2.1.barrier.1, ⟨b8.os, b8.tape, b8.output, b8.size, b8.block⟩⟩, by simp [intOf]; omega⟩
          · as_aux_lemma =>
              rw [hk] at q0
              cases hfull : o.full
              · rw [hfull] at q3
                have hon : (D.crashed o.kl).2 = (R.crashed o.kl).2 := (HV.out.2.1.crashed o.kl).2
                generalize hro : (R.crashed o.kl).2 = bb at *
                have HR := Lib.hid (And.intro hon hro)
                have HF := Lib.hid (And.intro hk hfull)
                clear hk hfull hon hro
                go_wp2_with (go_at_call 12; refine (Full_is o.b HA.out.2.2.2 _).mono ?_; rintro e w' ⟨rfl, rfl⟩)
                go_region_held3 (fun u => u.cell? ⟨wr.heap.size, 4, none⟩ = some (.slice o.ka o.kl.length o.kc)) (first
                  | (simp only [World.cell?_drew]; go_simp)
                  | (go_split_ands; exact (k6.cell ⟨wr.heap.size, 4, none⟩ rfl).trans (by assumption))
                  | (go_split_ands; exact (k7.cell ⟨wr.heap.size, 4, none⟩ rfl).trans (by assumption))) (first
                  | (go_at_call 17; refine (Crash_keep (by first | exact (HV.out.1.keep_alloc _).drew | exact (HV.out.1.keep_copy _ _ _).drew) o.ka o.kl o.kc (HA.out.2.1.below (by first | exact ((Below.refl _ _).alloc HV.out.1.le _).drew | exact ((Below.refl _ _).copy HV.out.1.le _ _ _).drew)) (by have := HS.out.2; omega)).mono ?_; rintro e w6 ⟨rfl, h6, b6, k6⟩; rw [HR.out.1]; have H6 := Lib.hid (And.intro h6 b6); clear h6 b6)
                  | (go_at_call 18; refine (rCrash_keep H6.out.1 o.ka o.kl o.kc (HA.out.2.1.below ((by first | exact ((Below.refl _ _).alloc HV.out.1.le _).drew | exact ((Below.refl _ _).copy HV.out.1.le _ _ _).drew : Below w.heap.size wr _).trans H6.out.2)) (by have := HS.out.2; omega)).mono ?_; rintro e w7 ⟨rfl, h7, b7, k7⟩; rw [HR.out.2]; have H7 := Lib.hid (And.intro h7 b7); clear h7 b7))
                go_wp2_with (go_at_call 11; refine (Is_duo H7.out.1.duo (HV.out.2.1.crashed o.kl).1.sim).mono ?_; rintro e w8 ⟨rfl, m8, rfl⟩)
                have b7 := H6.out.2.trans H7.out.2
                have b8 : Below w.heap.size w w7 := (by first | exact (HV.out.2.2.alloc HV.out.1.le _).drew | exact (HV.out.2.2.copy HV.out.1.le _ _ _).drew : Below w.heap.size w _).trans b7
                exact ⟨⟨k + 1, p', _, _, by omega, by go_num, rfl, H7.out.1.duo.drewN m8, (HV.out.2.1.crashed o.kl).1, ⟨b8.os, b8.tape, b8.output, b8.size, b8.block⟩⟩, by simp [intOf]; omega⟩
              · rw [hfull] at q3
                have hon : (D.crashed o.kl).2 = (R.crashed o.kl).2 := (HV.out.2.1.crashed o.kl).2
                generalize hro : (R.crashed o.kl).2 = bb at *
                have HR := Lib.hid (And.intro hon hro)
                have HF := Lib.hid (And.intro hk hfull)
                clear hk hfull hon hro
                go_wp2_with (go_at_call 12; refine (Full_is o.b HA.out.2.2.2 _).mono ?_; rintro e w' ⟨rfl, rfl⟩)
                go_region_held3 (fun u => u.cell? ⟨wr.heap.size, 4, none⟩ = some (.slice o.ka o.kl.length o.kc)) (first
                  | (simp only [World.cell?_drew]; go_simp)
                  | (go_split_ands; exact (k6.cell ⟨wr.heap.size, 4, none⟩ rfl).trans (by assumption))
                  | (go_split_ands; exact (k7.cell ⟨wr.heap.size, 4, none⟩ rfl).trans (by assumption))) (first
                  | (go_at_call 17; refine (Crash_keep (by first | exact (HV.out.1.keep_alloc _).drew | exact (HV.out.1.keep_copy _ _ _).drew) o.ka o.kl o.kc (HA.out.2.1.below (by first | exact ((Below.refl _ _).alloc HV.out.1.le _).drew | exact ((Below.refl _ _).copy HV.out.1.le _ _ _).drew)) (by have := HS.out.2; omega)).mono ?_; rintro e w6 ⟨rfl, h6, b6, k6⟩; rw [HR.out.1]; have H6 := Lib.hid (And.intro h6 b6); clear h6 b6)
                  | (go_at_call 18; refine (rCrash_keep H6.out.1 o.ka o.kl o.kc (HA.out.2.1.below ((by first | exact ((Below.refl _ _).alloc HV.out.1.le _).drew | exact ((Below.refl _ _).copy HV.out.1.le _ _ _).drew : Below w.heap.size wr _).trans H6.out.2)) (by have := HS.out.2; omega)).mono ?_; rintro e w7 ⟨rfl, h7, b7, k7⟩; rw [HR.out.2]; have H7 := Lib.hid (And.intro h7 b7); clear h7 b7))
                go_wp2_with (go_at_call 11; refine (Is_duo H7.out.1.duo (HV.out.2.1.crashed o.kl).1.sim).mono ?_; rintro e w8 ⟨rfl, m8, rfl⟩)
                have b7 := H6.out.2.trans H7.out.2
                have b8 : Below w.heap.size w w7 := (by first | exact (HV.out.2.2.alloc HV.out.1.le _).drew | exact (HV.out.2.2.copy HV.out.1.le _ _ _).drew : Below w.heap.size w _).trans b7
                exact ⟨⟨k + 1, p', _, _, by omega, by go_num, rfl, H7.out.1.duo.drewN m8, (HV.out.2.1.crashed o.kl).1, ⟨b8.os, b8.tape, b8.output, b8.size, b8.block⟩⟩, by simp [intOf]; omega⟩
          · as_aux_lemma =>
              rw [hk] at q0
              have hon : (!D.on) = (!R.on) := by rw [HV.out.2.1.sim.on]
              generalize hro : (!R.on) = bb at *
              have HR := Lib.hid (And.intro hon hro)
              cases hfull : o.full
              all_goals
                rw [hfull] at q3
                have HF := Lib.hid (And.intro hk hfull)
                clear hk hfull hon hro
                go_wp2_with (first
                  | (go_at_call 12; refine (Full_is o.b HA.out.2.2.2 _).mono ?_; rintro e w' ⟨rfl, rfl⟩)
                  | (go_at_call 19; refine (Power_duo (by first | exact HV.out.1.alloc _ | exact HV.out.1.copy _ _ _)).mono ?_; rintro e w6 ⟨rfl, h6, b6⟩; rw [HR.out.1]; have H6 := Lib.hid (And.intro h6 b6); clear h6 b6)
                  | (go_at_call 20; refine (rPower_duo H6.out.1).mono ?_; rintro e w7 ⟨rfl, h7, b7⟩; rw [HR.out.2]; have H7 := Lib.hid (And.intro h7 b7); clear h7 b7)
                  | (go_at_call 11; refine (Is_duo H7.out.1 HV.out.2.1.power.1.sim).mono ?_; rintro e w8 ⟨rfl, m8, rfl⟩))
                have b7 := H6.out.2.trans H7.out.2
                have b8 : Below w.heap.size w w7 := (by first | exact HV.out.2.2.alloc HV.out.1.le _ | exact HV.out.2.2.copy HV.out.1.le _ _ _ : Below w.heap.size w _).trans b7
                exact ⟨⟨k + 1, p', _, _, by omega, by go_num, rfl, H7.out.1.drewN m8, HV.out.2.1.power.1, ⟨b8.os, b8.tape, b8.output, b8.size, b8.block⟩⟩, by simp [intOf]; omega⟩
          · as_aux_lemma =>
              rw [hk] at q0
              cases hfull : o.full
              · rw [hfull] at q3
                have HF := Lib.hid (And.intro hk hfull)
                clear hk hfull
                go_upto_region 25 with (go_at_call 12; refine (Full_is o.b HA.out.2.2.2 _).mono ?_; rintro e w' ⟨rfl, rfl⟩)
                obtain ⟨W0, hW0⟩ : ∃ W0, W0 = wr.alloc (.cells #[.int .i64 5, .int .i64 o.k, .string o.b, .bool false, .slice o.ka o.kl.length o.kc] 31) := ⟨_, rfl⟩
                have K0 : DuoK w.heap.size (· = wr.heap.size) W0 p' q D R := by rw [hW0]; exact HV.out.1.keep_alloc _
                have B0 : Below w.heap.size wr W0 := by rw [hW0]; exact (Below.refl _ _).alloc HV.out.1.le _
                have S0 : W0.heap.size = wr.heap.size + 1 := by rw [hW0]; simp
                have N0 : ∀ b, b < wr.heap.size → W0.heap[b]? = wr.heap[b]? := fun b hb => by rw [hW0]; exact Below.heap_alloc _ _ _ hb
                have c1 : W0.cell? ⟨wr.heap.size, 1, none⟩ = some (.int .i64 o.k) := by rw [hW0]; go_simp
                have c4 : W0.cell? ⟨wr.heap.size, 4, none⟩ = some (.slice o.ka o.kl.length o.kc) := by rw [hW0]; go_simp
                rw [← hW0]
                have HK0 := Lib.hid (And.intro K0 (And.intro B0 (And.intro S0 N0)))
                clear hW0 K0 B0 S0 N0
                go_cut [10] (fun s10 wx => ArmCut W0 o.kl s10 wx)
                case first =>
                  as_aux_lemma =>
                    obtain ⟨i0, hi, hz0, hz1, hz2⟩ := info_parts intInfo
                    have HI := Lib.hid (And.intro hi (And.intro hz0 (And.intro hz1 hz2)))
                    clear hi hz0 hz1 hz2
                    have HC1 := Lib.hid (And.intro c1 c4)
                    have hn60 : o.kl.length ≤ 60 := by have := HS.out.2; omega
                    have hs0 : wr.heap.size < W0.heap.size := by have := HK0.out.2.2.1; omega
                    go_region_held3 (fun u => u.cell? ⟨wr.heap.size, 4, none⟩ = some (.slice o.ka o.kl.length o.kc)) (first | assumption | (simp only [World.cell?_drew]; assumption) | go_simp | go_keep) (first
                      | (refine step_append_copy rfl (.tmp 111) 29 rfl 3 i0 _ 1 8 Try.underlying29 HI.out.1 HI.out.2.1 HI.out.2.2.1 HI.out.2.2.2 rfl (by omega) (by omega) o.ka o.kl.length o.kc (o.kl.map (Value.int .i64)) rfl (Low.up HA.out.2.1 (by first | exact HK0.out.2.1.drew | exact (HK0.out.2.1.alloc (Nat.le_trans HV.out.1.le HK0.out.2.1.size) _).drew)) (by simp) ints_one (by omega) ?_
                         intro v1 w1 b1 own1
                         have A1 : Arm1 W0 3 o.kl v1 w1 := Arm1.of (by first | exact (Below.refl _ _).drew | exact ((Below.refl _ _).alloc (Nat.le_refl _) _).drew) b1 own1
                         have d4 : w1.cell? ⟨wr.heap.size, 4, none⟩ = some (.slice o.ka o.kl.length o.kc) := (A1.bel.cell (p := ⟨wr.heap.size, 4, none⟩) hs0).trans HC1.out.2
                         have hs1 : wr.heap.size < w1.heap.size := Nat.lt_of_lt_of_le hs0 A1.bel.size
                         have HA1 := Lib.hid (And.intro A1 b1)
                         clear A1 b1 own1)
                      | (refine step_append_lies _ rfl (.tmp 112) (.tmp 113) 29 rfl 0 3 i0 _ 1 8 Try.underlying29 HI.out.1 HI.out.2.1 HI.out.2.2.1 HI.out.2.2.2 rfl (by omega) v1 o.kl.length (o.kl.map (Value.int .i64)) rfl (by first | exact HA1.out.1.own | exact (HA1.out.1.alloc _).own) _ 1 1 [.int .i64 (-7)] rfl rfl (by first | exact World.news_of_block (heap_alloc_last _ _) | exact World.news_of_block ((HA1.out.2.block _ (by simp)).trans (heap_alloc_last _ _))) (by intro u hu; simp at hu; rw [hu]; rfl) (by omega) (by unfold maxLen; omega) (by omega) (by omega) _ rfl ?_
                         intro g4 cap4 w4 hown4 hgr4 hat4 hlt4
                         have A4 := Arm1.cut (by first | exact HA1.out.1 | exact HA1.out.1.alloc _) hown4 hgr4 hat4 hlt4
                         have d4' : w4.cell? ⟨wr.heap.size, 4, none⟩ = some (.slice o.ka o.kl.length o.kc) := (A4.1.cell (p := ⟨wr.heap.size, 4, none⟩) hs0).trans HC1.out.2
                         have hs4 : wr.heap.size < w4.heap.size := Nat.lt_of_lt_of_le hs0 A4.1.size
                         have hc4 : (o.kl.length : Int) ≤ (cap4 : Int) := by have := A4.2.2.2.2.2; omega
                         have HA4 := Lib.hid A4
                         clear A4 hown4 hgr4 hat4 hlt4))
                    all_goals
                      go_wp2_with fail
                      go_meet
                      exact ⟨g4, cap4, rfl, HA4.out.2.1, HA4.out.2.2.1, HA4.out.2.2.2.1, HA4.out.2.2.2.2.1, HA4.out.1⟩
                case rest =>
                  as_aux_lemma =>
                    obtain ⟨gm, cm, rfl, h1, h2, h3, h4, h5⟩ := hcut
                    have hs0 : wr.heap.size < W0.heap.size := by have := HK0.out.2.2.1; omega
                    have hle := HV.out.1.le
                    have KK : DuoK w.heap.size (fun b => b = wr.heap.size ∨ b = gm) wc p' q D R := HV.out.1.keep (by have := h5.size; omega) (fun b hb => (h5.block b (by omega)).trans (HK0.out.2.2.2 b hb)) (fun b hb => by
                      have := h5.size
                      rcases hb with rfl | rfl <;> omega)
                    have e1 : wc.cell? ⟨wr.heap.size, 1, none⟩ = some (.int .i64 o.k) := (h5.cell (p := ⟨wr.heap.size, 1, none⟩) hs0).trans c1
                    have e4 : wc.cell? ⟨wr.heap.size, 4, none⟩ = some (.slice o.ka o.kl.length o.kc) := (h5.cell (p := ⟨wr.heap.size, 4, none⟩) hs0).trans c4
                    have BW : Below w.heap.size wr wc := HK0.out.2.1.trans (h5.mono (by omega))
                    have hints : IntsAt wc (some ⟨gm, 0, none⟩) o.kl := fun j z hz => ⟨_, rfl, h2, by
                      have := h3 j (.int .i64 z) (by rw [List.getElem?_map, hz]; rfl)
                      rw [Addr.add_mid]; exact this⟩
                    have HX := Lib.hid (And.intro KK (And.intro BW (And.intro hints (And.intro h3 (And.intro h4 e4)))))
                    have hgB : w.heap.size ≤ gm := by omega
                    have HE := Lib.hid (show o.kl.length ≤ 60 by have := HS.out.2; omega)
                    clear KK BW hints h3 h4 h5 c1 c4 e4 h1 h2
                    go_wp2_with fail
                    refine (Arm_keep HX.out.1 o.k HA.out.2.2.1 (some ⟨gm, 0, none⟩) o.kl cm HX.out.2.2.1 (fun b _ hb => .inr (by cases hb; rfl)) (by have := HE.out; omega)).mono ?_
                    rintro e w6 ⟨rfl, h6, b6, k6⟩
                    have f1 : w6.cell? ⟨wr.heap.size, 1, none⟩ = some (.int .i64 o.k) := (k6.cell ⟨wr.heap.size, 1, none⟩ (.inl rfl)).trans e1
                    have f4 : w6.cell? ⟨wr.heap.size, 4, none⟩ = some (.slice o.ka o.kl.length o.kc) := (k6.cell ⟨wr.heap.size, 4, none⟩ (.inl rfl)).trans HX.out.2.2.2.2.2
                    have H6 := Lib.hid (And.intro h6 (And.intro b6 k6))
                    clear h6 b6 k6 e1
                    go_wp2_with fail
                    refine (rArm_keep H6.out.1 o.k o.ka o.kl o.kc (HA.out.2.1.below (HX.out.2.1.trans H6.out.2.1)) (by have := HE.out; omega)).mono ?_
                    rintro e w7 ⟨rfl, h7, b7, k7⟩
                    have M7 : MRow w.heap.size (fun b => b = wr.heap.size ∨ b = gm) wr p' q (D.arming o.k o.kl) (R.arming o.k o.kl) gm o.kl.length w7 := ⟨h7, fun j hj => ⟨o.kl[j], by
                        rw [k7.cell ⟨gm, j, none⟩ (.inr rfl), H6.out.2.2.cell ⟨gm, j, none⟩ (.inr rfl)]
                        have := HX.out.2.2.2.1 j (.int .i64 o.kl[j]) (by simp [hj])
                        rw [Nat.zero_add] at this
                        exact this⟩, fun j hj => by
                        rw [World.frozen?_of_block (w := w6) (a := ⟨gm, j, none⟩) (k7 gm (.inr rfl)), World.frozen?_of_block (w := wc) (a := ⟨gm, j, none⟩) (H6.out.2.2 gm (.inr rfl))]
                        have := (HX.out.2.2.2.2.1 j hj).2
                        rw [Nat.zero_add] at this
                        exact this, (HX.out.2.1.trans H6.out.2.1).trans b7⟩
                    have HM7 := Lib.hid M7
                    clear M7 h7 b7 k7 f1 f4
                    go_wp2_with fail
                    go_loopw [11] (fun i wl => ∃ j : Nat, j ≤ o.kl.length ∧ i = .int .i64 (j : Int) ∧ MRow w.heap.size (fun b => b = wr.heap.size ∨ b = gm) wr p' q (D.arming o.k o.kl) (R.arming o.k o.kl) gm o.kl.length wl) (fun i _ => o.kl.length - (intOf i).toNat)
                    case atStart => exact ⟨0, Nat.zero_le _, rfl, HM7.out⟩
                    case round =>
                      obtain ⟨j, hj, rfl, hM⟩ := hrel
                      by_cases hjl : j < o.kl.length
                      · obtain ⟨x, hx⟩ := hM.cel j hjl
                        have hfz := hM.frz j hjl
                        have HM := Lib.hid hM
                        have hji : (j : Int) < (o.kl.length : Int) := by omega
                        have hj60 : (j : Int) ≤ 60 := by have := HE.out; omega
                        clear hM
                        go_wp2
                        exact ⟨⟨j + 1, by omega, by go_num, HM.out.set (.inr rfl) hgB j _⟩, by simp [intOf]; omega⟩
                      · have HM := Lib.hid hM
                        have hji : ¬ (j : Int) < (o.kl.length : Int) := by omega
                        have hji2 : (o.kl.length : Int) ≤ (j : Int) := by omega
                        have hinv := HV.out.2.1.arming o.k HA.out.2.2.1 o.kl HE.out
                        have HI5 := Lib.hid hinv
                        clear hM hinv hjl
                        go_wp2_with (go_at_call 11; refine (Is_duo HM.out.duo.duo HI5.out.sim).mono ?_; rintro e w8 ⟨rfl, m8, rfl⟩)
                        exact ⟨⟨k + 1, p', _, _, by omega, by go_num, rfl, HM.out.duo.duo.drewN m8, HI5.out, bel_drewN (HV.out.2.2.trans HM.out.bel) m8⟩, by simp [intOf]; omega⟩
              · rw [hfull] at q3
                have HF := Lib.hid (And.intro hk hfull)
                clear hk hfull
                go_upto_region 25 with (go_at_call 12; refine (Full_is o.b HA.out.2.2.2 _).mono ?_; rintro e w' ⟨rfl, rfl⟩)
                obtain ⟨W0, hW0⟩ : ∃ W0, W0 = wr.alloc (.cells #[.int .i64 5, .int .i64 o.k, .string (pad32 o.b), .bool true, .slice o.ka o.kl.length o.kc] 31) := ⟨_, rfl⟩
                have K0 : DuoK w.heap.size (· = wr.heap.size) W0 p' q D R := by rw [hW0]; exact HV.out.1.keep_alloc _
                have B0 : Below w.heap.size wr W0 := by rw [hW0]; exact (Below.refl _ _).alloc HV.out.1.le _
                have S0 : W0.heap.size = wr.heap.size + 1 := by rw [hW0]; simp
                have N0 : ∀ b, b < wr.heap.size → W0.heap[b]? = wr.heap[b]? := fun b hb => by rw [hW0]; exact Below.heap_alloc _ _ _ hb
                have c1 : W0.cell? ⟨wr.heap.size, 1, none⟩ = some (.int .i64 o.k) := by rw [hW0]; go_simp
                have c4 : W0.cell? ⟨wr.heap.size, 4, none⟩ = some (.slice o.ka o.kl.length o.kc) := by rw [hW0]; go_simp
                rw [← hW0]
                have HK0 := Lib.hid (And.intro K0 (And.intro B0 (And.intro S0 N0)))
                clear hW0 K0 B0 S0 N0
                go_cut [10] (fun s10 wx => ArmCut W0 o.kl s10 wx)
                case first =>
                  as_aux_lemma =>
                    obtain ⟨i0, hi, hz0, hz1, hz2⟩ := info_parts intInfo
                    have HI := Lib.hid (And.intro hi (And.intro hz0 (And.intro hz1 hz2)))
                    clear hi hz0 hz1 hz2
                    have HC1 := Lib.hid (And.intro c1 c4)
                    have hn60 : o.kl.length ≤ 60 := by have := HS.out.2; omega
                    have hs0 : wr.heap.size < W0.heap.size := by have := HK0.out.2.2.1; omega
                    go_region_held3 (fun u => u.cell? ⟨wr.heap.size, 4, none⟩ = some (.slice o.ka o.kl.length o.kc)) (first | assumption | (simp only [World.cell?_drew]; assumption) | go_simp | go_keep) (first
                      | (refine step_append_copy rfl (.tmp 111) 29 rfl 3 i0 _ 1 8 Try.underlying29 HI.out.1 HI.out.2.1 HI.out.2.2.1 HI.out.2.2.2 rfl (by omega) (by omega) o.ka o.kl.length o.kc (o.kl.map (Value.int .i64)) rfl (Low.up HA.out.2.1 (by first | exact HK0.out.2.1.drew | exact (HK0.out.2.1.alloc (Nat.le_trans HV.out.1.le HK0.out.2.1.size) _).drew)) (by simp) ints_one (by omega) ?_
                         intro v1 w1 b1 own1
                         have A1 : Arm1 W0 3 o.kl v1 w1 := Arm1.of (by first | exact (Below.refl _ _).drew | exact ((Below.refl _ _).alloc (Nat.le_refl _) _).drew) b1 own1
                         have d4 : w1.cell? ⟨wr.heap.size, 4, none⟩ = some (.slice o.ka o.kl.length o.kc) := (A1.bel.cell (p := ⟨wr.heap.size, 4, none⟩) hs0).trans HC1.out.2
                         have hs1 : wr.heap.size < w1.heap.size := Nat.lt_of_lt_of_le hs0 A1.bel.size
                         have HA1 := Lib.hid (And.intro A1 b1)
                         clear A1 b1 own1)
                      | (refine step_append_lies _ rfl (.tmp 112) (.tmp 113) 29 rfl 0 3 i0 _ 1 8 Try.underlying29 HI.out.1 HI.out.2.1 HI.out.2.2.1 HI.out.2.2.2 rfl (by omega) v1 o.kl.length (o.kl.map (Value.int .i64)) rfl (by first | exact HA1.out.1.own | exact (HA1.out.1.alloc _).own) _ 1 1 [.int .i64 (-7)] rfl rfl (by first | exact World.news_of_block (heap_alloc_last _ _) | exact World.news_of_block ((HA1.out.2.block _ (by simp)).trans (heap_alloc_last _ _))) (by intro u hu; simp at hu; rw [hu]; rfl) (by omega) (by unfold maxLen; omega) (by omega) (by omega) _ rfl ?_
                         intro g4 cap4 w4 hown4 hgr4 hat4 hlt4
                         have A4 := Arm1.cut (by first | exact HA1.out.1 | exact HA1.out.1.alloc _) hown4 hgr4 hat4 hlt4
                         have d4' : w4.cell? ⟨wr.heap.size, 4, none⟩ = some (.slice o.ka o.kl.length o.kc) := (A4.1.cell (p := ⟨wr.heap.size, 4, none⟩) hs0).trans HC1.out.2
                         have hs4 : wr.heap.size < w4.heap.size := Nat.lt_of_lt_of_le hs0 A4.1.size
                         have hc4 : (o.kl.length : Int) ≤ (cap4 : Int) := by have := A4.2.2.2.2.2; omega
                         have HA4 := Lib.hid A4
                         clear A4 hown4 hgr4 hat4 hlt4))
                    all_goals
                      go_wp2_with fail
                      go_meet
                      exact ⟨g4, cap4, rfl, HA4.out.2.1, HA4.out.2.2.1, HA4.out.2.2.2.1, HA4.out.2.2.2.2.1, HA4.out.1⟩
                case rest =>
                  as_aux_lemma =>
                    obtain ⟨gm, cm, rfl, h1, h2, h3, h4, h5⟩ := hcut
                    have hs0 : wr.heap.size < W0.heap.size := by have := HK0.out.2.2.1; omega
                    have hle := HV.out.1.le
                    have KK : DuoK w.heap.size (fun b => b = wr.heap.size ∨ b = gm) wc p' q D R := HV.out.1.keep (by have := h5.size; omega) (fun b hb => (h5.block b (by omega)).trans (HK0.out.2.2.2 b hb)) (fun b hb => by
                      have := h5.size
                      rcases hb with rfl | rfl <;> omega)
                    have e1 : wc.cell? ⟨wr.heap.size, 1, none⟩ = some (.int .i64 o.k) := (h5.cell (p := ⟨wr.heap.size, 1, none⟩) hs0).trans c1
                    have e4 : wc.cell? ⟨wr.heap.size, 4, none⟩ = some (.slice o.ka o.kl.length o.kc) := (h5.cell (p := ⟨wr.heap.size, 4, none⟩) hs0).trans c4
                    have BW : Below w.heap.size wr wc := HK0.out.2.1.trans (h5.mono (by omega))
                    have hints : IntsAt wc (some ⟨gm, 0, none⟩) o.kl := fun j z hz => ⟨_, rfl, h2, by
                      have := h3 j (.int .i64 z) (by rw [List.getElem?_map, hz]; rfl)
                      rw [Addr.add_mid]; exact this⟩
                    have HX := Lib.hid (And.intro KK (And.intro BW (And.intro hints (And.intro h3 (And.intro h4 e4)))))
                    have hgB : w.heap.size ≤ gm := by omega
                    have HE := Lib.hid (show o.kl.length ≤ 60 by have := HS.out.2; omega)
                    clear KK BW hints h3 h4 h5 c1 c4 e4 h1 h2
                    go_wp2_with fail
                    refine (Arm_keep HX.out.1 o.k HA.out.2.2.1 (some ⟨gm, 0, none⟩) o.kl cm HX.out.2.2.1 (fun b _ hb => .inr (by cases hb; rfl)) (by have := HE.out; omega)).mono ?_
                    rintro e w6 ⟨rfl, h6, b6, k6⟩
                    have f1 : w6.cell? ⟨wr.heap.size, 1, none⟩ = some (.int .i64 o.k) := (k6.cell ⟨wr.heap.size, 1, none⟩ (.inl rfl)).trans e1
                    have f4 : w6.cell? ⟨wr.heap.size, 4, none⟩ = some (.slice o.ka o.kl.length o.kc) := (k6.cell ⟨wr.heap.size, 4, none⟩ (.inl rfl)).trans HX.out.2.2.2.2.2
                    have H6 := Lib.hid (And.intro h6 (And.intro b6 k6))
                    clear h6 b6 k6 e1
                    go_wp2_with fail
                    refine (rArm_keep H6.out.1 o.k o.ka o.kl o.kc (HA.out.2.1.below (HX.out.2.1.trans H6.out.2.1)) (by have := HE.out; omega)).mono ?_
                    rintro e w7 ⟨rfl, h7, b7, k7⟩
                    have M7 : MRow w.heap.size (fun b => b = wr.heap.size ∨ b = gm) wr p' q (D.arming o.k o.kl) (R.arming o.k o.kl) gm o.kl.length w7 := ⟨h7, fun j hj => ⟨o.kl[j], by
                        rw [k7.cell ⟨gm, j, none⟩ (.inr rfl), H6.out.2.2.cell ⟨gm, j, none⟩ (.inr rfl)]
                        have := HX.out.2.2.2.1 j (.int .i64 o.kl[j]) (by simp [hj])
                        rw [Nat.zero_add] at this
                        exact this⟩, fun j hj => by
                        rw [World.frozen?_of_block (w := w6) (a := ⟨gm, j, none⟩) (k7 gm (.inr rfl)), World.frozen?_of_block (w := wc) (a := ⟨gm, j, none⟩) (H6.out.2.2 gm (.inr rfl))]
                        have := (HX.out.2.2.2.2.1 j hj).2
                        rw [Nat.zero_add] at this
                        exact this, (HX.out.2.1.trans H6.out.2.1).trans b7⟩
                    have HM7 := Lib.hid M7
                    clear M7 h7 b7 k7 f1 f4
                    go_wp2_with fail
                    go_loopw [11] (fun i wl => ∃ j : Nat, j ≤ o.kl.length ∧ i = .int .i64 (j : Int) ∧ MRow w.heap.size (fun b => b = wr.heap.size ∨ b = gm) wr p' q (D.arming o.k o.kl) (R.arming o.k o.kl) gm o.kl.length wl) (fun i _ => o.kl.length - (intOf i).toNat)
                    case atStart => exact ⟨0, Nat.zero_le _, rfl, HM7.out⟩
                    case round =>
                      obtain ⟨j, hj, rfl, hM⟩ := hrel
                      by_cases hjl : j < o.kl.length
                      · obtain ⟨x, hx⟩ := hM.cel j hjl
                        have hfz := hM.frz j hjl
                        have HM := Lib.hid hM
                        have hji : (j : Int) < (o.kl.length : Int) := by omega
                        have hj60 : (j : Int) ≤ 60 := by have := HE.out; omega
                        clear hM
                        go_wp2
                        exact ⟨⟨j + 1, by omega, by go_num, HM.out.set (.inr rfl) hgB j _⟩, by simp [intOf]; omega⟩
                      · have HM := Lib.hid hM
                        have hji : ¬ (j : Int) < (o.kl.length : Int) := by omega
                        have hji2 : (o.kl.length : Int) ≤ (j : Int) := by omega
                        have hinv := HV.out.2.1.arming o.k HA.out.2.2.1 o.kl HE.out
                        have HI5 := Lib.hid hinv
                        clear hM hinv hjl
                        go_wp2_with (go_at_call 11; refine (Is_duo HM.out.duo.duo HI5.out.sim).mono ?_; rintro e w8 ⟨rfl, m8, rfl⟩)
                        exact ⟨⟨k + 1, p', _, _, by omega, by go_num, rfl, HM.out.duo.duo.drewN m8, HI5.out, bel_drewN (HV.out.2.2.trans HM.out.bel) m8⟩, by simp [intOf]; omega⟩
          · as_aux_lemma =>
              rw [hk] at q0
              cases hfull : o.full
              · rw [hfull] at q3
                have hon : (D.smashed o.k o.b).2 = (R.smashed o.k o.b).2 := (HV.out.2.1.smashed o.k o.b).2
                generalize hro : (R.smashed o.k o.b).2 = bb at *
                have HR := Lib.hid (And.intro hon hro)
                have HF := Lib.hid (And.intro hk hfull)
                clear hk hfull hon hro
                go_wp2_with (go_at_call 12; refine (Full_is o.b HA.out.2.2.2 _).mono ?_; rintro e w' ⟨rfl, rfl⟩)
                go_region_held3 (fun u => u.cell? ⟨wr.heap.size, 1, none⟩ = some (.int .i64 o.k) ∧ u.cell? ⟨wr.heap.size, 2, none⟩ = some (.string o.b)) (first
                  | (simp only [World.cell?_drew]; refine ⟨?_, ?_⟩ <;> go_simp)
                  | (go_split_ands; exact ⟨(k6.cell ⟨wr.heap.size, 1, none⟩ rfl).trans (by assumption), (k6.cell ⟨wr.heap.size, 2, none⟩ rfl).trans (by assumption)⟩)
                  | (go_split_ands; exact ⟨(k7.cell ⟨wr.heap.size, 1, none⟩ rfl).trans (by assumption), (k7.cell ⟨wr.heap.size, 2, none⟩ rfl).trans (by assumption)⟩)) (first
                  | (go_at_call 23; refine (Smash_keep (by first | exact (HV.out.1.keep_alloc _).drew | exact (HV.out.1.keep_copy _ _ _).drew) o.k o.b).mono ?_; rintro e w6 ⟨rfl, h6, b6, k6⟩; rw [HR.out.1]; have H6 := Lib.hid (And.intro h6 b6); clear h6 b6)
                  | (go_at_call 24; refine (rSmash_keep H6.out.1 o.k o.b).mono ?_; rintro e w7 ⟨rfl, h7, b7, k7⟩; rw [HR.out.2]; have H7 := Lib.hid (And.intro h7 b7); clear h7 b7))
                go_wp2_with (go_at_call 11; refine (Is_duo H7.out.1.duo (HV.out.2.1.smashed o.k o.b).1.sim).mono ?_; rintro e w8 ⟨rfl, m8, rfl⟩)
                have b7 := H6.out.2.trans H7.out.2
                have b8 : Below w.heap.size w w7 := (by first | exact (HV.out.2.2.alloc HV.out.1.le _).drew | exact (HV.out.2.2.copy HV.out.1.le _ _ _).drew : Below w.heap.size w _).trans b7
                exact ⟨⟨k + 1, p', _, _, by omega, by go_num, rfl, H7.out.1.duo.drewN m8, (HV.out.2.1.smashed o.k o.b).1, ⟨b8.os, b8.tape, b8.output, b8.size, b8.block⟩⟩, by simp [intOf]; omega⟩
              · rw [hfull] at q3
                have hon : (D.smashed o.k (pad32 o.b)).2 = (R.smashed o.k (pad32 o.b)).2 := (HV.out.2.1.smashed o.k (pad32 o.b)).2
                generalize hro : (R.smashed o.k (pad32 o.b)).2 = bb at *
                have HR := Lib.hid (And.intro hon hro)
                have HF := Lib.hid (And.intro hk hfull)
                clear hk hfull hon hro
                go_wp2_with (go_at_call 12; refine (Full_is o.b HA.out.2.2.2 _).mono ?_; rintro e w' ⟨rfl, rfl⟩)
                go_region_held3 (fun u => u.cell? ⟨wr.heap.size, 1, none⟩ = some (.int .i64 o.k) ∧ u.cell? ⟨wr.heap.size, 2, none⟩ = some (.string (pad32 o.b))) (first
                  | (simp only [World.cell?_drew]; refine ⟨?_, ?_⟩ <;> go_simp)
                  | (go_split_ands; exact ⟨(k6.cell ⟨wr.heap.size, 1, none⟩ rfl).trans (by assumption), (k6.cell ⟨wr.heap.size, 2, none⟩ rfl).trans (by assumption)⟩)
                  | (go_split_ands; exact ⟨(k7.cell ⟨wr.heap.size, 1, none⟩ rfl).trans (by assumption), (k7.cell ⟨wr.heap.size, 2, none⟩ rfl).trans (by assumption)⟩)) (first
                  | (go_at_call 23; refine (Smash_keep (by first | exact (HV.out.1.keep_alloc _).drew | exact (HV.out.1.keep_copy _ _ _).drew) o.k (pad32 o.b)).mono ?_; rintro e w6 ⟨rfl, h6, b6, k6⟩; rw [HR.out.1]; have H6 := Lib.hid (And.intro h6 b6); clear h6 b6)
                  | (go_at_call 24; refine (rSmash_keep H6.out.1 o.k (pad32 o.b)).mono ?_; rintro e w7 ⟨rfl, h7, b7, k7⟩; rw [HR.out.2]; have H7 := Lib.hid (And.intro h7 b7); clear h7 b7))
                go_wp2_with (go_at_call 11; refine (Is_duo H7.out.1.duo (HV.out.2.1.smashed o.k (pad32 o.b)).1.sim).mono ?_; rintro e w8 ⟨rfl, m8, rfl⟩)
                have b7 := H6.out.2.trans H7.out.2
                have b8 : Below w.heap.size w w7 := (by first | exact (HV.out.2.2.alloc HV.out.1.le _).drew | exact (HV.out.2.2.copy HV.out.1.le _ _ _).drew : Below w.heap.size w _).trans b7
                exact ⟨⟨k + 1, p', _, _, by omega, by go_num, rfl, H7.out.1.duo.drewN m8, (HV.out.2.1.smashed o.k (pad32 o.b)).1, ⟨b8.os, b8.tape, b8.output, b8.size, b8.block⟩⟩, by simp [intOf]; omega⟩
          · as_aux_lemma =>
              rw [hk] at q0
              have hkeep := HV.out.2.1.keep
              have hdd := HV.out.2.1.deeds
              have hww := HV.out.2.1.waits
              obtain ⟨w1, w2, w3⟩ := write_deeds D 0 (pad32 ⟨#[111, 116, 104, 101, 114]⟩)
              have HW := Lib.hid (And.intro w1 (And.intro w2 w3))
              have HP := Lib.hid (And.intro hkeep (And.intro hdd hww))
              clear w1 w2 w3 hkeep hdd hww
              cases hfull : o.full
              all_goals
                rw [hfull] at q3
                cases hev : (bits BinOp.and .i64 o.k 1 == 0)
                · have HF := Lib.hid (And.intro hk hfull)
                  clear hk hfull
                  go_wp2_with (first
                    | (go_at_call 12; refine (Full_is o.b HA.out.2.2.2 _).mono ?_; rintro e w' ⟨rfl, rfl⟩)
                    | (go_at_call 25; refine (Twin_all (by first | exact HV.out.1.alloc _ | exact HV.out.1.copy _ _ _) (by have := HP.out.1; omega)).mono ?_; rintro e w6 ⟨t, rfl, h6, b6, k6⟩; have H6 := Lib.hid (And.intro h6 (And.intro b6 k6)); clear h6 b6 k6))
                  refine (Is_duo H6.out.1.swap.duo HV.out.2.1.sim).mono ?_
                  rintro e w8 ⟨rfl, m8, rfl⟩
                  have hck : w6.cell? ⟨wr.heap.size, 1, none⟩ = some (.int .i64 o.k) := (World.cell?_of_block (a := ⟨wr.heap.size, 1, none⟩) (H6.out.2.2 _ (by simp))).trans (by go_simp)
                  have HT := Lib.hid (H6.out.1.drewN m8)
                  go_wp2_with (first
                    | (go_at_call 12; refine (Full_is ⟨#[111, 116, 104, 101, 114]⟩ (by decide) _).mono ?_; rintro e w' ⟨rfl, rfl⟩)
                    | (go_at_call 13; refine (Write_trio HT.out 0 (pad32 ⟨#[111, 116, 104, 101, 114]⟩) (by have := HP.out.2.2; omega) (by have := HP.out.2.1; omega)).mono ?_; rintro e w9 ⟨rfl, h9, b9⟩; have H9 := Lib.hid (And.intro h9 b9); clear h9 b9)
                    | (go_at_call 15; refine (Barrier_trio H9.out.1 (by have := HP.out.2.1; have := HW.out.1; omega)).mono ?_; rintro e w10 ⟨rfl, h10, b10⟩; have H10 := Lib.hid (And.intro h10 b10); clear h10 b10)
                    | (go_at_call 17; refine (Crash_trio H10.out.1).mono ?_; rintro e w11 ⟨rfl, h11, b11⟩; have H11 := Lib.hid (And.intro h11 b11); clear h11 b11))
                  refine (Is_duo H11.out.1.duo HV.out.2.1.sim).mono ?_
                  rintro e w12 ⟨rfl, m12, rfl⟩
                  go_wp2_with fail
                  have b12 := (((bel_drewN (((by first | exact HV.out.2.2.alloc HV.out.1.le _ | exact HV.out.2.2.copy HV.out.1.le _ _ _ : Below w.heap.size w _)).trans H6.out.2.1) m8).trans H9.out.2).trans H10.out.2).trans H11.out.2
                  exact ⟨⟨k + 1, p', _, _, by omega, by go_num, rfl, H11.out.1.duo.drewN m12, HV.out.2.1.up (Nat.le_succ k), bel_drewN b12 m12⟩, by simp [intOf]; omega⟩
                · have HF := Lib.hid (And.intro hk hfull)
                  clear hk hfull
                  go_wp2_with (first
                    | (go_at_call 12; refine (Full_is o.b HA.out.2.2.2 _).mono ?_; rintro e w' ⟨rfl, rfl⟩)
                    | (go_at_call 25; refine (Twin_all (by first | exact HV.out.1.alloc _ | exact HV.out.1.copy _ _ _) (by have := HP.out.1; omega)).mono ?_; rintro e w6 ⟨t, rfl, h6, b6, k6⟩; have H6 := Lib.hid (And.intro h6 (And.intro b6 k6)); clear h6 b6 k6))
                  refine (Is_duo H6.out.1.swap.duo HV.out.2.1.sim).mono ?_
                  rintro e w8 ⟨rfl, m8, rfl⟩
                  have hck : w6.cell? ⟨wr.heap.size, 1, none⟩ = some (.int .i64 o.k) := (World.cell?_of_block (a := ⟨wr.heap.size, 1, none⟩) (H6.out.2.2 _ (by simp))).trans (by go_simp)
                  have HT := Lib.hid ((H6.out.1.drewN m8).swap)
                  go_wp2_with (first
                    | (go_at_call 12; refine (Full_is ⟨#[111, 116, 104, 101, 114]⟩ (by decide) _).mono ?_; rintro e w' ⟨rfl, rfl⟩)
                    | (go_at_call 13; refine (Write_trio HT.out 0 (pad32 ⟨#[111, 116, 104, 101, 114]⟩) (by have := HP.out.2.2; omega) (by have := HP.out.2.1; omega)).mono ?_; rintro e w9 ⟨rfl, h9, b9⟩; have H9 := Lib.hid (And.intro h9 b9); clear h9 b9)
                    | (go_at_call 15; refine (Barrier_trio H9.out.1 (by have := HP.out.2.1; have := HW.out.1; omega)).mono ?_; rintro e w10 ⟨rfl, h10, b10⟩; have H10 := Lib.hid (And.intro h10 b10); clear h10 b10)
                    | (go_at_call 17; refine (Crash_trio H10.out.1).mono ?_; rintro e w11 ⟨rfl, h11, b11⟩; have H11 := Lib.hid (And.intro h11 b11); clear h11 b11))
                  refine (Is_duo H11.out.1.duo HV.out.2.1.sim).mono ?_
                  rintro e w12 ⟨rfl, m12, rfl⟩
                  go_wp2_with fail
                  have b12 := (((bel_drewN (((by first | exact HV.out.2.2.alloc HV.out.1.le _ | exact HV.out.2.2.copy HV.out.1.le _ _ _ : Below w.heap.size w _)).trans H6.out.2.1) m8).trans H9.out.2).trans H10.out.2).trans H11.out.2
                  exact ⟨⟨k + 1, t, _, _, by omega, by go_num, rfl, H11.out.1.duo.drewN m12, HV.out.2.1.up (Nat.le_succ k), bel_drewN b12 m12⟩, by simp [intOf]; omega⟩
          · as_aux_lemma =>
              have x1 : (o.kind == 1) = false := by simp; omega
              have x2 : (o.kind == 2) = false := by simp; omega
              have x3 : (o.kind == 3) = false := by simp; omega
              have x4 : (o.kind == 4) = false := by simp; omega
              have x5 : (o.kind == 5) = false := by simp; omega
              have x6 : (o.kind == 6) = false := by simp; omega
              have x7 : (o.kind == 7) = false := by simp; omega
              clear hk
              cases hfull : o.full
              all_goals
                rw [hfull] at q3
                have HF := Lib.hid hfull
                clear hfull
                go_wp2_with (first
                  | (go_at_call 12; refine (Full_is o.b HA.out.2.2.2 _).mono ?_; rintro e w' ⟨rfl, rfl⟩)
                  | (go_at_call 11; refine (Is_duo (by first | exact HV.out.1.alloc _ | exact HV.out.1.copy _ _ _) HV.out.2.1.sim).mono ?_; rintro e w8 ⟨rfl, m8, rfl⟩))
                exact ⟨⟨k + 1, p', _, _, by omega, by go_num, rfl, Duo.drewN (by first | exact HV.out.1.alloc _ | exact HV.out.1.copy _ _ _) m8, HV.out.2.1.up (Nat.le_succ k), bel_drewN (HV.out.2.2.alloc HV.out.1.le _) m8⟩, by simp [intOf]; omega⟩
    · obtain rfl : k = l.length := by omega
      have hn2 : ¬ (l.length : Int) < (l.length : Int) := by omega
      have HB := Lib.hid hb
      clear hlt hd hv hb HD2 B4
      go_wp2_with (first
        | (go_at_call 21; refine (Arm_nil _ _ _).mono ?_; rintro e w' ⟨rfl, rfl⟩)
        | (go_at_call 26; refine (Read_nil _ _).mono ?_; rintro e w' ⟨rfl, rfl⟩)
        | (go_at_call 13; refine (Write_nil _ _ _).mono ?_; rintro e w' ⟨rfl, rfl⟩)
        | (go_at_call 15; refine (Barrier_nil _).mono ?_; rintro e w' ⟨rfl, rfl⟩)
        | (go_at_call 17; refine (Crash_nil _ _).mono ?_; rintro e w' ⟨rfl, rfl⟩)
        | (go_at_call 27; refine (Len_nil _).mono ?_; rintro e w' ⟨rfl, rfl⟩)
        | (go_at_call 28; refine (Waits_nil _).mono ?_; rintro e w' ⟨rfl, rfl⟩)
        | (go_at_call 29; refine (Deeds_nil _).mono ?_; rintro e w' ⟨rfl, rfl⟩)
        | (go_at_call 19; refine (Power_nil _).mono ?_; rintro e w' ⟨rfl, rfl⟩)
        | (go_at_call 30; refine (On_nil _).mono ?_; rintro e w' ⟨rfl, rfl⟩)
        | (go_at_call 23; refine (Smash_nil _ _ _).mono ?_; rintro e w' ⟨rfl, rfl⟩)
        | (go_at_call 25; refine (Twin_nil _).mono ?_; rintro e w' ⟨rfl, rfl⟩)
        | (go_at_call 12; refine (Full_is ⟨#[]⟩ (by decide) _).mono ?_; rintro e w' ⟨rfl, rfl⟩))
      go_ret
      exact ⟨rfl, HB.out⟩
end Go.Proofs.Ytobgcengijnffaa
