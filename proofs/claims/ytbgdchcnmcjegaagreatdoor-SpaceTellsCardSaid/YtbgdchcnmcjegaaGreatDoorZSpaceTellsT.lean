/- SpaceTells: the walk, where the control may be. -/
import Derived.Deep.DeepCutAuto
import Derived.Test.YtbgdchcnmcjegaaGreatDoorZSpaceTellsA
set_option linter.unusedVariables false
set_option linter.unusedSimpArgs false
namespace Go.Proofs.YtbgdchcnmcjegaaGreatDoor
open Go.RowKit Sec
open Go.Proofs.YtbgdchcnmcjegaaGreatDoor.Bk

section
variable {W : World}
set_option maxRecDepth 100000 in
set_option maxHeartbeats 8000000 in
theorem Tells_fine (ht : TyOk W.heap.size W) (H L : Nat) (a b c d : Int) (hg : geOk H L = true) (hfine : fineB H L a b c d = true) (h60 : H ≤ 60) (q : Option Addr) (l : List Chg) (m : Nat) (hq : LiesAt W q (flat Chg.cells l)) (hl : l.length ≤ 30) : Calls Tryz.prog 3 #[.agg #[.int .i64 (H : Int), .int .i64 (L : Int)], .slice q l.length m, .agg #[.int .i64 a, .int .i64 b, .int .i64 c, .int .i64 d]] W fun e w' => e = .returned (.bool true) ∧ Below W.heap.size W w' := by
  have hge := geOk_yes hg
  have HT := Lib.hid ht
  have HQ := Lib.hid (And.intro hq (fun u (y : Below W.heap.size W u) (x : LiesAt W q (flat Chg.cells l)) => x.below y))
  have HR := Lib.hid (fun u => rgeo_is H L u)
  rw [hg] at HR
  have HK := Lib.hid (kept6_made W H L a b c d)
  have HRaw : Hid (∀ u, TyOk u.heap.size u → LiesAt u q (flat Chg.cells l) → Calls Tryz.prog 7 #[.agg #[.int .i64 (H : Int), .int .i64 (L : Int)], .slice q l.length m] u fun r w' => ∃ s, r = .returned (.pointer (some ⟨s, 0, none⟩)) ∧ St u.heap.size (fun b => b < u.heap.size) w' s H L (rawW H l) ∧ Below u.heap.size u w') := Lib.hid (fun u x y => Raw_st x H L (by omega) q l m y (by omega))
  have hN : 4 ≤ (rawW H l).length := by rw [rawW_len]; omega
  generalize hV : rawW H l = V at *
  clear hV
  have HHeap : Hid (∀ B G u s, St B G u s H L V → Calls Tryz.prog 8 #[.pointer (some ⟨s, 0, none⟩)] u fun r w' => ∃ b g c, r = .returned (.pointer (some ⟨b, 0, none⟩)) ∧ HIs u.heap.size w' b H L V g c ∧ Below u.heap.size u w') := Lib.hid (fun B G u s x => Heap_st x)
  have HF := Lib.hid (fun u => rfine_is H L a b c d u)
  have HSR := Lib.hid (fun u => spright_is H L a b c d u)
  have HSet := Lib.hid (fun B G u s (x : St B G u s H L V) => spset_st x a b c d)
  have HA : Hid (hSp (ctlW V a b c d) = a ∧ hFr (ctlW V a b c d) = b ∧ hGc (ctlW V a b c d) = c ∧ hSc (ctlW V a b c d) = d) := Lib.hid (ctl_at hN)
  have HGet2 : Hid (∀ B G u s, St B G u s H L (ctlW V a b c d) → Calls Tryz.prog 12 #[.pointer (some ⟨s, 0, none⟩)] u fun e w' => e = .returned (.agg #[.int .i64 a, .int .i64 b, .int .i64 c, .int .i64 d]) ∧ Below u.heap.size u w') := Lib.hid (fun B G u s x => by
    have := spget_st x
    rwa [HA.out.1, HA.out.2.1, HA.out.2.2.1, HA.out.2.2.2] at this)
  have HC : Hid (∀ B u p g cc, HIs B u p H L V g cc → Calls Tryz.prog 9 #[.pointer (some ⟨p, 0, none⟩)] u fun e w' => e = .returned (.tuple #[.int .i64 (hSp V), .int .i64 (hFr V), .int .i64 (hGc V), .int .i64 (hSc V)]) ∧ Below u.heap.size u w') := Lib.hid (fun B u p g cc x => rcontrol_is x)
  have HRR := Lib.hid (fun B u p g cc (x : HIs B u p H L V g cc) => rright_is x)
  have HRL : Hid (hOk H L V = true → ∀ B u p g cc, HIs B u p H L V g cc → Calls Tryz.prog 11 #[.pointer (some ⟨p, 0, none⟩)] u fun e w' => e = .returned (.int .i64 (16 + hSp V * H + H - hFr V)) ∧ Below u.heap.size u w') := Lib.hid (fun o B u p g cc x => rleft_is x o)
  have HGet := Lib.hid (fun B G u s (x : St B G u s H L V) => spget_st x)
  have HLeft := Lib.hid (fun B G u s (x : St B G u s H L V) => spleft_st x)
  have HUsed := Lib.hid (fun B G u s (x : St B G u s H L V) => spused_st x)
  have HRt := Lib.hid (fun u => spright_is H L (hSp V) (hFr V) (hGc V) (hSc V) u)
  rw [show fineB H L (hSp V) (hFr V) (hGc V) (hSc V) = hOk H L V from rfl] at HRt
  have hok : hOk H L V = true → 0 ≤ 16 + hSp V * H + H - hFr V ∧ 16 + hSp V * H + H - hFr V ≤ H ∧ hFr V - (16 + hSp V * H) = H - (16 + hSp V * H + H - hFr V) := fun o => by
    obtain ⟨q1, q2, _, q3, _⟩ := fine_yes (show fineB H L (hSp V) (hFr V) (hGc V) (hSc V) = true from o)
    omega
  obtain ⟨VV, hVV⟩ : ∃ VV, VV = (if fineB H L a b c d then ctlW V a b c d else V) := ⟨_, rfl⟩
  have HIs1 : Hid (∀ B B' G u s p g cc, St B G u s H L VV → HIs B' u p H L VV g cc → Calls Tryz.prog 18 #[.pointer (some ⟨s, 0, none⟩), .pointer (some ⟨p, 0, none⟩)] u fun r w' => r = .returned (.bool true) ∧ Below u.heap.size u w') := Lib.hid (fun B B' G u s p g cc x y => by
    have := Is_st x y
    rwa [decide_eq_true rfl] at this)
  rw [← hVV] at HSet
  have HN0 := Lib.hid (fun u => spget_nil u)
  have HN1 := Lib.hid (fun u => spset_nil a b c d u)
  have HN2 := Lib.hid (fun u => spleft_nil u)
  have HN3 := Lib.hid (fun u => spused_nil u)
  have HN4 := Lib.hid (fun u => spright_is 0 0 a b c d u)
  rw [fine_zero] at HN4
  have hez := fun u => run_ne4s u (hSp V) (hFr V) (hGc V) (hSc V)
  have hez2 := fun u => run_eq4s u a b c d
  have hez3 := fun u => run_eq4s u 0 0 0 0
  have HW : Hid (fineB H L a b c d = true → VV = (((V.set 0 a).set 1 b).set 2 c).set 3 d) := Lib.hid (fun o => by rw [hVV, if_pos o, ctlW])
  have HWn : Hid (fineB H L a b c d = false → VV = V) := Lib.hid (fun o => by rw [hVV, if_neg (by rw [o]; decide)])
  have HGet2' : Hid (fineB H L a b c d = true → ∀ B G u s, St B G u s H L VV → Calls Tryz.prog 12 #[.pointer (some ⟨s, 0, none⟩)] u fun e w' => e = .returned (.agg #[.int .i64 a, .int .i64 b, .int .i64 c, .int .i64 d]) ∧ Below u.heap.size u w') := Lib.hid (fun o B G u s x => HGet2.out B G u s (by rw [hVV, if_pos o] at x; exact x))
  clear HGet2 hVV
  clear HA ht hg hq
  have hl1 : ¬ (30 : Int) < (l.length : Int) := by omega
  have hH1 : ¬ (60 : Int) < (H : Int) := by omega
  have hHi : (H : Int) ≤ 60 := by omega
  have hHi0 : (0 : Int) ≤ (H : Int) := by omega
  have y0n : 0 < V.length := by omega
  have y0 : (0 : Int) < (V.length : Int) := by omega
  have y1 : (1 : Int) < (V.length : Int) := by omega
  have y2 : (2 : Int) < (V.length : Int) := by omega
  have y3 : (3 : Int) < (V.length : Int) := by omega
  clear hge h60 hl
  generalize hOk H L V = ok at *
  generalize fineB H L a b c d = fine at *
  subst hfine
  generalize hsp : hSp V = x0 at *
  generalize hfr : hFr V = x1 at *
  generalize hgc : hGc V = x2 at *
  generalize hsc : hSc V = x3 at *
  clear hsp hfr hgc hsc
  generalize 16 + x0 * (H : Int) + (H : Int) - x1 = lf at *
  generalize x1 - (16 + x0 * (H : Int)) = us at *
  obtain ⟨lv, hlv⟩ : ∃ lv, lv = (if ok = true then lf else 0) := ⟨_, rfl⟩
  obtain ⟨uv, huv⟩ : ∃ uv, uv = (if ok = true then us else 0) := ⟨_, rfl⟩
  rw [← hlv] at HLeft
  rw [← huv] at HUsed
  have HLU : Hid ((ok = true → lv = lf ∧ uv = (H : Int) - lf ∧ 0 ≤ lf ∧ lf ≤ H) ∧ (ok = false → lv = 0 ∧ uv = 0)) := Lib.hid ⟨fun o => by
    obtain ⟨o1, o2, o3⟩ := hok o
    exact ⟨by rw [hlv, if_pos o], by rw [huv, if_pos o, o3], o1, o2⟩, fun o => by
    rw [o] at hlv huv
    exact ⟨hlv, huv⟩⟩
  clear hlv huv hok
  go_enter Tryz.func3, Tryz.ntmps3
  go_upto_if 49 with (first
    | (go_at_call 5; refine (HR.out _).mono ?_; rintro e' w1 ⟨rfl, b1⟩; replace HK := Lib.hid (kept6_keep HK.out b1); obtain ⟨⟨c0, c1, c2, c3, c4, c5⟩, _, _⟩ := HK.out; clear b1)
    | (go_at_call 6; refine (spalive_is ((HT.out.below HK.out.2.2).more HK.out.2.2.size)).mono ?_; rintro e' w2 ⟨rfl, b2⟩; replace HK := Lib.hid (kept6_keep HK.out b2); clear b2; clear c0 c1 c2 c3 c4 c5; obtain ⟨⟨c0, c1, c2, c3, c4, c5⟩, _, _⟩ := HK.out)
    | (go_at_call 7; refine (HRaw.out _ ((HT.out.below HK.out.2.2).more HK.out.2.2.size) (HQ.out.2 _ HK.out.2.2 HQ.out.1)).mono ?_; rintro e' w3 ⟨s, rfl, h3, b3⟩; have H3 := Lib.hid (And.intro h3 b3); clear h3 b3 c0 c1 c2 c3 c4 c5)
    | (go_at_call 8; refine (HHeap.out _ _ _ _ H3.out.1).mono ?_; rintro e' w4 ⟨p, g, cc, rfl, h4, b4⟩; have HZ := Lib.hid (TlS.start HK.out H3.out.2 H3.out.1 b4 h4); clear h4 b4; obtain ⟨⟨c0, c1, c2, c3, c4, c5⟩, _, _⟩ := HZ.out.k)
    | (go_at_call 9; refine (HC.out _ _ _ _ _ HZ.out.d).mono ?_; rintro e' w5 ⟨rfl, b5⟩; replace HZ := Lib.hid (HZ.out.below b5); clear b5; clear c0 c1 c2 c3 c4 c5; obtain ⟨⟨c0, c1, c2, c3, c4, c5⟩, _, _⟩ := HZ.out.k)
    | (go_at_call 10; refine (HRR.out _ _ _ _ _ HZ.out.d).mono ?_; rintro e' w6 ⟨rfl, b6⟩; replace HZ := Lib.hid (HZ.out.below b6); clear b6; clear c0 c1 c2 c3 c4 c5; obtain ⟨⟨c0, c1, c2, c3, c4, c5⟩, _, _⟩ := HZ.out.k))
  clear H3 HK HT HQ HRaw HHeap HR
  go_cut [13, 14] (fun s13 s14 wx => s13 = .int .i64 lv ∧ s14 = .int .i64 uv ∧ TlS W (H : Int) (L : Int) a b c d w2.heap.size w3.heap.size s H L V V p g cc wx)
  case first =>
    cases ok
    · obtain ⟨rfl, rfl⟩ := HLU.out.2 rfl
      go_wp2_with fail
      go_meet
      exact ⟨rfl, rfl, HZ.out⟩
    · obtain ⟨rfl, rfl, o1, o2⟩ := HLU.out.1 rfl
      have hwr : IntKind.i64.wrap ((H : Int) - lv) = (H : Int) - lv := by rw [IntKind.wrap_i64]; omega
      go_wp2_with (first
        | (go_at_call 11; refine (HRL.out rfl _ _ _ _ _ HZ.out.d).mono ?_; rintro e' w7 ⟨rfl, b7⟩; replace HZ := Lib.hid (HZ.out.below b7); clear b7; clear c0 c1 c2 c3 c4 c5; obtain ⟨⟨c0, c1, c2, c3, c4, c5⟩, _, _⟩ := HZ.out.k))
      go_meet
      exact ⟨rfl, rfl, HZ.out⟩
  clear HLU HRL HC
  replace HZ := True.intro
  clear c0 c1 c2 c3 c4 c5
  obtain ⟨rfl, rfl, hz⟩ := hcut
  have HZ := Lib.hid hz
  clear hz
  obtain ⟨⟨c0, c1, c2, c3, c4, c5⟩, _, _⟩ := HZ.out.k
  go_upto_region 12 with fail
  go_cut [84] (fun s84 wx => s84 = .bool false ∧ TlS W (H : Int) (L : Int) a b c d w2.heap.size w3.heap.size s H L V V p g cc wx)
  case first =>
    go_region_held3 (fun u => (u.cell? ⟨W.heap.size, 0, none⟩ = some (.int .i64 (H : Int)) ∧ u.cell? ⟨W.heap.size, 1, none⟩ = some (.int .i64 (L : Int)) ∧ u.cell? ⟨W.heap.size + 1, 0, none⟩ = some (.int .i64 a) ∧ u.cell? ⟨W.heap.size + 1, 1, none⟩ = some (.int .i64 b) ∧ u.cell? ⟨W.heap.size + 1, 2, none⟩ = some (.int .i64 c) ∧ u.cell? ⟨W.heap.size + 1, 3, none⟩ = some (.int .i64 d)) ∧ W.heap.size + 1 < u.heap.size ∧ Below W.heap.size W u) (first
        | assumption
        | exact HZ.out.k
        | exact kept6_keep HZ.out.k (Below.refl _ _).drew) (first
      | (go_at_call 12; refine (HGet.out _ _ _ _ (by first | exact HZ.out.s | exact (HZ.out.below (Below.refl _ _).drew).s)).mono ?_; rintro e' w8 ⟨rfl, b8⟩; replace HZ := Lib.hid (HZ.out.next b8 (by first | exact .inl rfl | exact .inr rfl)))
      | (go_at_call 13; refine (HLeft.out _ _ _ _ HZ.out.s).mono ?_; rintro e' w8 ⟨rfl, b8⟩; replace HZ := Lib.hid (HZ.out.next b8 (by first | exact .inl rfl | exact .inr rfl)))
      | (go_at_call 14; refine (HUsed.out _ _ _ _ HZ.out.s).mono ?_; rintro e' w8 ⟨rfl, b8⟩; replace HZ := Lib.hid (HZ.out.next b8 (by first | exact .inl rfl | exact .inr rfl)))
      | (go_at_call 15; refine (HRt.out _).mono ?_; rintro e' w8 ⟨rfl, b8⟩; replace HZ := Lib.hid (HZ.out.next b8 (by first | exact .inl rfl | exact .inr rfl)))
      | (go_at_call 10; refine (HRR.out _ _ _ _ _ HZ.out.d).mono ?_; rintro e' w8 ⟨rfl, b8⟩; replace HZ := Lib.hid (HZ.out.next b8 (by first | exact .inl rfl | exact .inr rfl))))
    go_wp2_with fail
    go_meet
    exact ⟨by simp, HZ.out⟩
  replace HZ := True.intro
  clear c0 c1 c2 c3 c4 c5
  obtain ⟨rfl, hz⟩ := hcut
  have HZ := Lib.hid hz
  clear hz HGet HLeft HUsed HRt HRR
  obtain ⟨⟨c0, c1, c2, c3, c4, c5⟩, _, _⟩ := HZ.out.k
  go_upto_if 107 with (first
    | (go_at_call 16; refine (HF.out _).mono ?_; rintro e' w9 ⟨rfl, b9⟩; replace HZ := Lib.hid (HZ.out.below b9); clear b9; clear c0 c1 c2 c3 c4 c5; obtain ⟨⟨c0, c1, c2, c3, c4, c5⟩, _, _⟩ := HZ.out.k)
    | (go_at_call 15; refine (HSR.out _).mono ?_; rintro e' w10 ⟨rfl, b10⟩; replace HZ := Lib.hid (HZ.out.below b10); clear b10; clear c0 c1 c2 c3 c4 c5; obtain ⟨⟨c0, c1, c2, c3, c4, c5⟩, _, _⟩ := HZ.out.k)
    | (go_at_call 17; refine (HSet.out _ _ _ _ HZ.out.s).mono ?_; rintro e' w11 ⟨rfl, h11, b11, k11⟩; replace HZ := Lib.hid (HZ.out.set h11 b11 k11); clear h11 b11 k11; clear c0 c1 c2 c3 c4 c5; obtain ⟨⟨c0, c1, c2, c3, c4, c5⟩, _, _⟩ := HZ.out.k))
  go_cut [15] (fun s15 wx => s15 = .bool true ∧ TlS W (H : Int) (L : Int) a b c d w2.heap.size w3.heap.size s H L VV VV p g cc wx)
  case first =>
    have hv : VV = (((V.set 0 a).set 1 b).set 2 c).set 3 d := by first | exact HW.out rfl | exact HW.out True.intro | exact HW.out
    obtain ⟨_, _, _, _, ew, e0, e0', e1, e1', e2, e2', e3, e3'⟩ := tells_at HZ.out
    have HS0 := Lib.hid (show KS W.heap.size p g cc V.length a b c d w11 from ⟨⟨ew, c2, c3, c4, c5⟩, tells_ne HZ.out⟩)
    have HV := Lib.hid hv
    clear hv
    go_upto_region 18 with fail
    go_region_held3 (fun u => (u.cell? ⟨p, 2, none⟩ = some (.slice (some ⟨g, 0, none⟩) V.length cc) ∧ u.cell? ⟨W.heap.size + 1, 0, none⟩ = some (.int .i64 a) ∧ u.cell? ⟨W.heap.size + 1, 1, none⟩ = some (.int .i64 b) ∧ u.cell? ⟨W.heap.size + 1, 2, none⟩ = some (.int .i64 c) ∧ u.cell? ⟨W.heap.size + 1, 3, none⟩ = some (.int .i64 d)) ∧ (p ≠ g ∧ W.heap.size + 1 ≠ g)) (first
        | assumption
        | exact HS0.out
        | exact KS.drew HS0.out
        | exact KS.set (by assumption) _ _) (first
      | fail)
    go_wp2_with fail
    go_meet
    exact ⟨rfl, tells_put HV.out HZ.out⟩
  replace HZ := True.intro
  clear c0 c1 c2 c3 c4 c5 y0 y1 y2 y3 y0n HF HSR HSet HW HWn
  obtain ⟨rfl, hz⟩ := hcut
  have HZ := Lib.hid hz
  clear hz
  obtain ⟨⟨c0, c1, c2, c3, c4, c5⟩, _, _⟩ := HZ.out.k
  go_upto_region 19 with fail
  have HGet2 : Hid (∀ B G u s, St B G u s H L VV → Calls Tryz.prog 12 #[.pointer (some ⟨s, 0, none⟩)] u fun e w' => e = .returned (.agg #[.int .i64 a, .int .i64 b, .int .i64 c, .int .i64 d]) ∧ Below u.heap.size u w') := Lib.hid (by first | exact HGet2'.out rfl | exact HGet2'.out True.intro | exact HGet2'.out)
  clear HGet2'
  go_region_held3 (fun u => (u.cell? ⟨W.heap.size, 0, none⟩ = some (.int .i64 (H : Int)) ∧ u.cell? ⟨W.heap.size, 1, none⟩ = some (.int .i64 (L : Int)) ∧ u.cell? ⟨W.heap.size + 1, 0, none⟩ = some (.int .i64 a) ∧ u.cell? ⟨W.heap.size + 1, 1, none⟩ = some (.int .i64 b) ∧ u.cell? ⟨W.heap.size + 1, 2, none⟩ = some (.int .i64 c) ∧ u.cell? ⟨W.heap.size + 1, 3, none⟩ = some (.int .i64 d)) ∧ W.heap.size + 1 < u.heap.size ∧ Below W.heap.size W u) (first
      | assumption
      | exact HZ.out.k
      | exact kept6_keep HZ.out.k (Below.refl _ _).drew) (first
    | (go_at_call 18; first | (refine (HIs1.out _ _ _ _ _ _ _ _ HZ.out.s HZ.out.d).mono ?_; rintro e' w13 ⟨rfl, b13⟩; replace HZ := Lib.hid (HZ.out.next b13 (by first | exact .inl rfl | exact .inr rfl))) | (refine (HIs1.out _ _ _ _ _ _ _ _ (HZ.out.below (Below.refl _ _).drew).s (HZ.out.below (Below.refl _ _).drew).d).mono ?_; rintro e' w13 ⟨rfl, b13⟩; replace HZ := Lib.hid (HZ.out.next b13 (by first | exact .inl rfl | exact .inr rfl))))
    | (go_at_call 12; with_reducible refine (HGet2.out _ _ _ _ HZ.out.s).mono ?_; rintro e' w13 ⟨rfl, b13⟩; replace HZ := Lib.hid (HZ.out.next b13 (by first | exact .inl rfl | exact .inr rfl)))
    | (go_at_call 12; with_reducible refine (HN0.out _).mono ?_; rintro e' w13 ⟨rfl, b13⟩; replace HZ := Lib.hid (HZ.out.next b13 (by first | exact .inl rfl | exact .inr rfl)))
    | (go_at_call 17; with_reducible refine (HN1.out _).mono ?_; rintro e' w13 ⟨rfl, b13⟩; replace HZ := Lib.hid (HZ.out.next b13 (by first | exact .inl rfl | exact .inr rfl)))
    | (go_at_call 13; with_reducible refine (HN2.out _).mono ?_; rintro e' w13 ⟨rfl, b13⟩; replace HZ := Lib.hid (HZ.out.next b13 (by first | exact .inl rfl | exact .inr rfl)))
    | (go_at_call 14; with_reducible refine (HN3.out _).mono ?_; rintro e' w13 ⟨rfl, b13⟩; replace HZ := Lib.hid (HZ.out.next b13 (by first | exact .inl rfl | exact .inr rfl)))
    | (go_at_call 15; with_reducible refine (HN4.out _).mono ?_; rintro e' w13 ⟨rfl, b13⟩; replace HZ := Lib.hid (HZ.out.next b13 (by first | exact .inl rfl | exact .inr rfl))))
  go_wp2_with fail
  go_ret
  exact ⟨rfl, HZ.out.k.2.2⟩
end
end Go.Proofs.YtbgdchcnmcjegaaGreatDoor
