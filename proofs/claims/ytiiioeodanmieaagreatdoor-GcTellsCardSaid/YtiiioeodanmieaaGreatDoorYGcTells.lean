import Derived.Deep.CutBlock
import Derived.Test.YtiiioeodanmieaaGreatDoorYGcT
import Derived.Test.YtiiioeodanmieaaGreatDoorYGcG
import Derived.Test.YtiiioeodanmieaaGreatDoorYOpenA
set_option linter.unusedVariables false
set_option linter.unusedSimpArgs false
namespace Go.Proofs.YtiiioeodanmieaaGreatDoor
open Go.RowKit Sec
open Go.Proofs.YtiiioeodanmieaaGreatDoor.Bk

section
variable {W : World}
set_option maxRecDepth 100000 in
set_option maxHeartbeats 4000000 in
theorem GTells_no (ht : TyOk W.heap.size W) (h l : Int) (q q2 q3 : Option Addr) (n m n2 m2 n3 m3 : Nat) (hn : (n : Int) ≤ 9223372036854775807) (hn2 : (n2 : Int) ≤ 9223372036854775807) (hn3 : (n3 : Int) ≤ 9223372036854775807) (no : ¬ (geOk h l = true ∧ h ≤ 80 ∧ n ≤ 60 ∧ n2 ≤ 8 ∧ n3 ≤ 40)) : Calls Tryz.prog 3 #[.agg #[.int .i64 h, .int .i64 l], .slice q n m, .slice q2 n2 m2, .slice q3 n3 m3] W fun e w' => e = .returned (.bool true) ∧ Below W.heap.size W w' := by
  have HT := Lib.hid ht
  have HR := Lib.hid (fun u => rgeo_is h l u)
  have cases : geOk h l = false ∨ (geOk h l = true ∧ (80 < h ∨ (h ≤ 80 ∧ ((60 : Int) < (n : Int) ∨ ((n : Int) ≤ 60 ∧ ((8 : Int) < (n2 : Int) ∨ ((n2 : Int) ≤ 8 ∧ (40 : Int) < (n3 : Int)))))))) := by
    cases q : geOk h l
    · exact .inl rfl
    · have no2 : ¬ (h ≤ 80 ∧ n ≤ 60 ∧ n2 ≤ 8 ∧ n3 ≤ 40) := fun x => no ⟨q, x⟩
      exact .inr ⟨rfl, by omega⟩
  clear no ht
  generalize geOk h l = ok at *
  rcases cases with rfl | ⟨rfl, c1 | ⟨c1, c2 | ⟨c2, c3 | ⟨c3, c4⟩⟩⟩⟩
  all_goals
    go_enter Tryz.func3, Tryz.ntmps3
    go_wp2_with (first
      | (go_at_call 11; refine (HR.out _).mono ?_; rintro e' w1 ⟨rfl, b1⟩; have H1 := Lib.hid (GBox.laid b1); obtain ⟨_, c0, _⟩ := H1.out.1; clear b1)
      | (go_at_call 12; refine (gcalive_is ((HT.out.below H1.out.2).more H1.out.2.size)).mono ?_; rintro e' w2 ⟨rfl, b2⟩; have H2 := Lib.hid (geo_next H1.out.2 b2); clear b2))
    go_ret
    exact ⟨rfl, H2.out⟩
set_option maxRecDepth 100000 in
set_option maxHeartbeats 16000000 in
theorem GTells_yes (ht : TyOk W.heap.size W) (H L : Nat) (hg : geOk H L = true) (hH : H ≤ 80) (q : Option Addr) (l : List Chg) (m : Nat) (hq : LiesAt W q (flat Chg.cells l)) (hl : l.length ≤ 60) (q2 : Option Addr) (rs : List Int) (m2 : Nat) (hq2 : LiesAt W q2 (vals rs)) (hrl : rs.length ≤ 8) (q3 : Option Addr) (t : List Two) (m3 : Nat) (hq3 : LiesAt W q3 (flat Two.cells t)) (hwf : ∀ x ∈ t, x.wf) (htl : t.length ≤ 40) : Calls Tryz.prog 3 #[.agg #[.int .i64 (H : Int), .int .i64 (L : Int)], .slice q l.length m, .slice q2 rs.length m2, .slice q3 t.length m3] W fun e w' => e = .returned (.bool true) ∧ Below W.heap.size W w' := by
  have hge := geOk_yes hg
  have HT := Lib.hid ht
  have HR := Lib.hid (fun u => rgeo_is H L u)
  rw [hg] at HR
  have HQ := Lib.hid (And.intro hq (fun u (y : Below W.heap.size W u) (x : LiesAt W q (flat Chg.cells l)) => x.below y))
  have HRaw : Hid (∀ u, TyOk u.heap.size u → LiesAt u q (flat Chg.cells l) → Calls Tryz.prog 13 #[.agg #[.int .i64 (H : Int), .int .i64 (L : Int)], .slice q l.length m] u fun r w' => ∃ s, r = .returned (.pointer (some ⟨s, 0, none⟩)) ∧ St u.heap.size (fun b => b < u.heap.size) w' s H L (rawW H l) ∧ Below u.heap.size u w') := Lib.hid (fun u x y => Raw_st x H L (by omega) q l m y (by omega))
  have HHeap : Hid (∀ B G u s V, St B G u s H L V → Calls Tryz.prog 14 #[.pointer (some ⟨s, 0, none⟩)] u fun r w' => ∃ b g c, r = .returned (.pointer (some ⟨b, 0, none⟩)) ∧ HIs u.heap.size w' b H L V g c ∧ Below u.heap.size u w') := Lib.hid (fun B G u s V x => Heap_st x)
  have HTw := Lib.hid hq3
  have HWf := Lib.hid hwf
  have HRs := Lib.hid hq2
  have HRb : Hid (∀ x : Addr, q2 = some x → x.block < W.heap.size ∨ rs = []) := Lib.hid (fun x e => by
    subst e
    cases rs with
    | nil => exact .inr rfl
    | cons z r =>
      obtain ⟨b, e1, e2, _⟩ := hq2 0 (.int .i64 z) rfl
      cases e1
      exact .inl e2)
  have HM := Lib.hid (GBox.made W (H : Int) (L : Int) 23)
  have hi0 : ¬ (80 : Int) < (H : Int) := by omega
  have hl1 : ¬ (60 : Int) < (l.length : Int) := by omega
  have hr1 : ¬ (8 : Int) < (rs.length : Int) := by omega
  have ht1 : ¬ (40 : Int) < (t.length : Int) := by omega
  have ht2 : (t.length : Int) ≤ 40 := by omega
  have HH := Lib.hid hH
  have HrL := Lib.hid hrl
  generalize rawW H l = V0 at *
  clear ht hg hge hq hq2 hq3 hwf hH
  go_enter Tryz.func3, Tryz.ntmps3
  go_wp2_with (first
    | (go_at_call 11; refine (HR.out _).mono ?_; rintro e' w1 ⟨rfl, b1⟩; have H1 := Lib.hid (GBox.laid b1); obtain ⟨_, c0, c1⟩ := H1.out.1; clear b1)
    | (go_at_call 12; refine (gcalive_is ((HT.out.below H1.out.2).more H1.out.2.size)).mono ?_; rintro e' w2 ⟨rfl, b2⟩; replace H1 := Lib.hid (And.intro (H1.out.1.below b2) (geo_next H1.out.2 b2)); clear b2 c0 c1; obtain ⟨_, c0, c1⟩ := H1.out.1)
    | (go_at_call 13; refine (HRaw.out _ ((HT.out.below H1.out.2).more H1.out.2.size) (HQ.out.2 _ H1.out.2 HQ.out.1)).mono ?_; rintro e' w3 ⟨s, rfl, h3, b3⟩; have H3 := Lib.hid (And.intro h3 b3); clear h3 b3 c0 c1)
    | (go_at_call 14; refine (HHeap.out _ _ _ _ _ H3.out.1).mono ?_; rintro e' w4 ⟨p, g, cc, rfl, h4, b4⟩; have HS := Lib.hid (show AtE W (H : Int) (L : Int) _ _ _ s H L V0 V0 p g cc _ [] [] _ from ⟨_, AtS.start H1.out.1 H1.out.2 H3.out.2 H3.out.1 b4 h4⟩); clear h4 b4))
  have HTy : Hid (∀ u, Below W.heap.size W u → TyOk u.heap.size u) := Lib.hid (fun u y => (HT.out.below y).more y.size)
  clear H1 H3 HR HRaw HHeap HQ HT HM
  generalize w4.heap.size = C at *
  generalize w3.heap.size = B' at *
  generalize w2.heap.size = B at *
  go_loopw [12] (fun i wr => ∃ (k : Nat) (V : List Int) (LI MI : List IL), k ≤ t.length ∧ LI.length ≤ k ∧ i = .int .i64 (k : Int) ∧ Hid (AtE W H L B B' C s H L V V p g cc C LI MI wr)) (fun i _ => t.length - (intOf i).toNat)
  case atStart => exact ⟨0, V0, [], [], Nat.zero_le _, Nat.le_refl _, rfl, HS⟩
  case round =>
    clear HS
    obtain ⟨k, V, LI, MI, hk, hLI, rfl, HS⟩ := hrel
    have hk40 : (k : Int) ≤ 40 := by omega
    by_cases hlt : k < t.length
    · obtain ⟨g1, og, rfl, hg1, e1⟩ := HTw.out.elem Two.len (by omega) (List.getElem?_eq_getElem hlt)
      have e1_0 := e1 0 _ rfl
      have e1_1 := e1 1 _ rfl
      rw [Nat.add_zero] at e1_0
      clear e1
      have HD : Hid (∀ u, Below W.heap.size W u → u.cell? ⟨g1, og + k * 2, none⟩ = some (.int .i64 t[k].a) ∧ u.cell? ⟨g1, og + k * 2 + 1, none⟩ = some (.int .i64 t[k].b)) := Lib.hid (fun u y => ⟨(y.cell (p := ⟨g1, og + k * 2, none⟩) hg1).trans e1_0, (y.cell (p := ⟨g1, og + k * 2 + 1, none⟩) hg1).trans e1_1⟩)
      have hxb := (HWf.out _ (List.getElem_mem hlt)).2
      generalize t[k].a = xk at *
      generalize t[k].b = xn at *
      have hi1 : (k : Int) < (t.length : Int) := by omega
      clear e1_0 e1_1
      have HLe : Hid (∀ u, AtE W H L B B' C s H L V V p g cc C LI MI u → Calls Tryz.prog 15 #[.slice q2 rs.length m2] u fun e w' => ∃ gm cap, e = .returned (.slice (some ⟨gm, 0, none⟩) rs.length cap) ∧ GtS W H L B B' C s H L V V p g cc C LI MI (fun i => i = gm) w' ∧ w'.ownsRow C 3 1 (.slice (some ⟨gm, 0, none⟩) (rs.length + 1) cap) (rs.length + 1) (vals rs ++ [.int .i64 (-77)])) := Lib.hid (fun u x => (lentInts_is q2 rs m2 u (HRs.out.below x.b) (by have := HrL.out; omega)).mono fun e w' ⟨gm, cap, z1, z2, z3⟩ => ⟨gm, cap, z1, ((GtS.ofE x).more z2).1.less (fun i r => .inr (by subst r; exact ⟨(z3.lt _ rfl).1, (z3.lt _ rfl).2⟩)), owns_base (GtS.ofE x).hC z3⟩)
      obtain ⟨e1_0, e1_1⟩ := HD.out _ HS.out.b
      go_upto_block 2 with (first
        | (go_at_call 15; refine (HLe.out _ HS.out).mono ?_; rintro e' w5 ⟨gm, cap, rfl, h5, o5⟩; have H5 := Lib.hid (And.intro h5 o5); clear h5 o5 e1_0 e1_1; obtain ⟨e1_0, e1_1⟩ := HD.out _ H5.out.1.b))
      go_cut [15, 16, 17, 18, 19, 20, 21, 22, 23, 24] from 85 to 179 (fun s15 s16 s17 s18 s19 s20 _ _ _ _ wx => ∃ (V2 : List Int) (LI2 MI2 : List IL) (xa xb : IL) (e : Int) (b : Bool), LI2.length ≤ k + 1 ∧ s15 = xa.cell ∧ s16 = xb.cell ∧ s17 = .int .i64 e ∧ s18 = .int .i64 e ∧ s19 = .bool b ∧ s20 = .bool b ∧ Hid (GtF W B B' C s H L V2 p g cc C LI2 MI2 gm cap rs xa xb wx))
      case first =>
        have HM : Hid (GtM W B B' C s H L V V p g cc C LI MI gm cap rs w5) := Lib.hid ⟨H5.out.1, H5.out.2⟩
        have HV := Lib.hid HM.out.nums
        have HK : Hid (∀ V2 xa xb u, GtB W B B' C s H L V2 V2 p g cc C LI MI gm cap rs xa xb u → Calls Tryz.prog 18 #[.pointer (some ⟨C, 0, none⟩), xa.cell] u fun e w' => e = .returned (.tuple #[]) ∧ ∃ LI2 MI2, LI2.length = LI.length + 1 ∧ GtF W B B' C s H L V2 p g cc C LI2 MI2 gm cap rs xa xb w') := Lib.hid (fun V2 xa xb u x => gm_keep x (by omega))
        clear H5 HS HLe HTy
        have hc5 : xk = 1 ∨ (¬ xk = 1 ∧ (xk = 2 ∨ (¬ xk = 2 ∧ (xk = 3 ∨ (¬ xk = 3 ∧ (xk = 4 ∨ (¬ xk = 4 ∧ (xk = 5 ∨ ¬ xk = 5)))))))) := by omega
        rcases hc5 with k1 | ⟨n1, k2 | ⟨n2, k3 | ⟨n3, k4 | ⟨n4, k5 | n5⟩⟩⟩⟩
        · -- 1
          obtain ⟨E, out, V2, hA, hB⟩ := gm_start (p := p) (g := g) (cc := cc) (kp := C) (LI := LI) (MI := MI) (gm := gm) (cap := cap) (B := B) (B' := B') (C := C) (s := s) HV.out.1 HV.out.2 HrL.out q2 m2 HRs.out HRb.out
          have HA := Lib.hid hA
          have HB := Lib.hid hB
          clear hA hB
          go_wp2_with (first
            | (go_at_call 16; refine (HA.out _ HM.out).mono ?_; rintro e' w6 ⟨xa, rfl, h6⟩; have H6 := Lib.hid h6; clear h6)
            | (go_at_call 17; refine (HB.out _ _ H6.out).mono ?_; rintro e' w7 ⟨xb, rfl, h7⟩; have H7 := Lib.hid h7; clear h7)
            | (go_at_call 18; refine (HK.out _ _ _ _ H7.out).mono ?_; rintro e' w8 ⟨rfl, LI2, MI2, hn, h8⟩; have H8 := Lib.hid h8; clear h8))
          go_meet
          exact ⟨V2, LI2, MI2, xa, xb, E, false, by omega, rfl, rfl, rfl, rfl, rfl, rfl, H8⟩
        · -- 2
          obtain ⟨E, bo, V2, hA, hB⟩ := gm_step (W := W) (p := p) (g := g) (cc := cc) (kp := C) (LI := LI) (MI := MI) (gm := gm) (cap := cap) (rs := rs) (B := B) (B' := B') (C := C) (s := s) (L := L) HV.out.1 HV.out.2 xn (i64_top hxb)
          have HA := Lib.hid hA
          have HB := Lib.hid hB
          clear hA hB
          go_wp2_with (first
            | (go_at_call 19; refine (HA.out _ HM.out).mono ?_; rintro e' w6 ⟨rfl, h6⟩; have H6 := Lib.hid h6; clear h6)
            | (go_at_call 20; refine (HB.out _ H6.out).mono ?_; rintro e' w7 ⟨rfl, h7⟩; have H7 := Lib.hid h7; clear h7))
          go_meet
          exact ⟨V2, LI, MI, ⟨none, [], 0⟩, ⟨none, [], 0⟩, E, bo, by omega, rfl, rfl, rfl, rfl, rfl, rfl, Lib.hid (gm_fin H7.out)⟩
        · -- 3
          obtain ⟨E, out, V2, hA, hB⟩ := gm_all (p := p) (g := g) (cc := cc) (kp := C) (LI := LI) (MI := MI) (gm := gm) (cap := cap) (B := B) (B' := B') (C := C) (s := s) HV.out.1 HV.out.2 HrL.out q2 m2 HRs.out HRb.out
          have HA := Lib.hid hA
          have HB := Lib.hid hB
          clear hA hB
          go_wp2_with (first
            | (go_at_call 21; refine (HA.out _ HM.out).mono ?_; rintro e' w6 ⟨xa, rfl, h6⟩; have H6 := Lib.hid h6; clear h6)
            | (go_at_call 22; refine (HB.out _ _ H6.out).mono ?_; rintro e' w7 ⟨xb, rfl, h7⟩; have H7 := Lib.hid h7; clear h7)
            | (go_at_call 18; refine (HK.out _ _ _ _ H7.out).mono ?_; rintro e' w8 ⟨rfl, LI2, MI2, hn, h8⟩; have H8 := Lib.hid h8; clear h8))
          go_meet
          exact ⟨V2, LI2, MI2, xa, xb, E, false, by omega, rfl, rfl, rfl, rfl, rfl, rfl, H8⟩
        · -- 4
          obtain ⟨E, z, V2, hA, hB⟩ := gm_root (W := W) (p := p) (g := g) (cc := cc) (kp := C) (LI := LI) (MI := MI) (gm := gm) (cap := cap) (rs := rs) (B := B) (B' := B') (C := C) (s := s) (L := L) HV.out.1 HV.out.2 xn
          have HA := Lib.hid hA
          have HB := Lib.hid hB
          clear hA hB
          go_wp2_with (first
            | (go_at_call 23; refine (HA.out _ HM.out).mono ?_; rintro e' w6 ⟨rfl, h6⟩; have H6 := Lib.hid h6; clear h6)
            | (go_at_call 24; refine (HB.out _ H6.out).mono ?_; rintro e' w7 ⟨rfl, h7⟩; have H7 := Lib.hid h7; clear h7))
          go_meet
          exact ⟨V2, LI, MI, ⟨none, [], 0⟩, ⟨none, [], 0⟩, E, false, by omega, rfl, rfl, rfl, rfl, rfl, rfl, Lib.hid (gm_fin H7.out)⟩
        · -- 5
          obtain ⟨E, z, V2, hA, hB⟩ := gm_new (W := W) (p := p) (g := g) (cc := cc) (kp := C) (LI := LI) (MI := MI) (gm := gm) (cap := cap) (rs := rs) (B := B) (B' := B') (C := C) (s := s) (L := L) HV.out.1 xn
          have HA := Lib.hid hA
          have HB := Lib.hid hB
          clear hA hB
          have HS5 : Hid (∀ u, GtM W B B' C s H L V2 V2 p g cc C LI MI gm cap rs u → ∃ (E3 : Int) (V3 : List Int),
              (∀ u, GtM W B B' C s H L V2 V2 p g cc C LI MI gm cap rs u → Calls Tryz.prog 27 #[.pointer (some ⟨s, 0, none⟩), .int .i64 xn, .int .i64 z] u fun e w' => e = .returned (.int .i64 E3) ∧ GtM W B B' C s H L V3 V2 p g cc C LI MI gm cap rs w') ∧
              (∀ u, GtM W B B' C s H L V3 V2 p g cc C LI MI gm cap rs u → Calls Tryz.prog 28 #[.pointer (some ⟨p, 0, none⟩), .int .i64 xn, .int .i64 z] u fun e w' => e = .returned (.int .i64 E3) ∧ GtM W B B' C s H L V3 V3 p g cc C LI MI gm cap rs w')) := Lib.hid (fun u x => gm_set x.nums.1 xn z)
          by_cases hE : E = 0
          · subst hE
            go_wp2_with (first
              | (go_at_call 25; refine (HA.out _ HM.out).mono ?_; rintro e' w6 ⟨rfl, h6⟩; have H6 := Lib.hid h6; clear h6)
              | (go_at_call 26; refine (HB.out _ H6.out).mono ?_; rintro e' w7 ⟨rfl, h7⟩; obtain ⟨E3, V3, hC, hD⟩ := HS5.out _ h7; have H7 := Lib.hid h7; have HC := Lib.hid hC; have HD5 := Lib.hid hD; clear h7 hC hD)
              | (go_at_call 27; refine (HC.out _ H7.out).mono ?_; rintro e' w8 ⟨rfl, h8⟩; have H8 := Lib.hid h8; clear h8)
              | (go_at_call 28; refine (HD5.out _ H8.out).mono ?_; rintro e' w9 ⟨rfl, h9⟩; have H9 := Lib.hid h9; clear h9))
            go_meet
            exact ⟨V3, LI, MI, ⟨none, [], 0⟩, ⟨none, [], 0⟩, E3, false, by omega, rfl, rfl, rfl, rfl, rfl, rfl, Lib.hid (gm_fin H9.out)⟩
          · go_wp2_with (first
              | (go_at_call 25; refine (HA.out _ HM.out).mono ?_; rintro e' w6 ⟨rfl, h6⟩; have H6 := Lib.hid h6; clear h6)
              | (go_at_call 26; refine (HB.out _ H6.out).mono ?_; rintro e' w7 ⟨rfl, h7⟩; have H7 := Lib.hid h7; clear h7))
            go_meet
            exact ⟨V2, LI, MI, ⟨none, [], 0⟩, ⟨none, [], 0⟩, 0, false, by omega, rfl, rfl, rfl, rfl, rfl, rfl, Lib.hid (gm_fin H7.out)⟩
        · -- another
          go_wp2_with fail
          go_meet
          exact ⟨V, LI, MI, ⟨none, [], 0⟩, ⟨none, [], 0⟩, 0, false, by omega, rfl, rfl, rfl, rfl, rfl, rfl, Lib.hid (gm_fin HM.out)⟩
      case rest =>
        obtain ⟨V2, LI2, MI2, xa, xb, e, b, hL2, rfl, rfl, rfl, rfl, rfl, rfl, HF⟩ := hcut
        have HF1 : Hid (∀ u, GtF W B B' C s H L V2 p g cc C LI2 MI2 gm cap rs xa xb u → Calls Tryz.prog 29 #[xa.cell, xb.cell] u fun e w' => e = .returned (.bool true) ∧ Below u.heap.size u w') := Lib.hid (fun u x => x.same)
        have HF2 : Hid (∀ u, GtF W B B' C s H L V2 p g cc C LI2 MI2 gm cap rs xa xb u → Calls Tryz.prog 30 #[.pointer (some ⟨s, 0, none⟩), .pointer (some ⟨p, 0, none⟩)] u fun e w' => e = .returned (.bool true) ∧ Below u.heap.size u w') := Lib.hid (fun u x => x.is)
        have HF3 : Hid (∀ u, GtF W B B' C s H L V2 p g cc C LI2 MI2 gm cap rs xa xb u → Calls Tryz.prog 31 #[.pointer (some ⟨s, 0, none⟩)] u fun e w' => e = .returned (.bool (decide (hGc V2 = 1))) ∧ Below u.heap.size u w') := Lib.hid (fun u x => x.on)
        have HF4 : Hid (∀ u, GtF W B B' C s H L V2 p g cc C LI2 MI2 gm cap rs xa xb u → Calls Tryz.prog 32 #[.slice (some ⟨gm, 0, none⟩) rs.length cap, .slice q2 rs.length m2] u fun e w' => e = .returned (.bool true) ∧ Below u.heap.size u w') := Lib.hid (fun u x => x.stays (HRs.out.below x.e.b) m2 (by have := HrL.out; omega))
        have hVl : (2 : Int) < (V2.length : Int) := by have := HF.out.e.d.ge; omega
        have HFc : Hid (∀ u, GtF W B B' C s H L V2 p g cc C LI2 MI2 gm cap rs xa xb u → (u.cell? ⟨p, 2, none⟩ = some (.slice (some ⟨g, 0, none⟩) V2.length cc) ∧ u.cell? ⟨g, 2, none⟩ = some (.int .i64 (hGc V2))) ∧ GtF W B B' C s H L V2 p g cc C LI2 MI2 gm cap rs xa xb u) := Lib.hid (fun u x => ⟨x.cells, x⟩)
        have HFb : Hid (∀ u u', GtF W B B' C s H L V2 p g cc C LI2 MI2 gm cap rs xa xb u → Below u.heap.size u u' → GtF W B B' C s H L V2 p g cc C LI2 MI2 gm cap rs xa xb u') := Lib.hid (fun u u' x y => x.below y)
        clear H5 HS HLe HD
        generalize hGc V2 = gcv at *
        generalize V2.length = vl at *
        have hob2 : (gcv == 1) = decide (gcv = 1) := by rw [Bool.eq_iff_iff]; simp
        generalize hob : decide (gcv = 1) = ob at *
        have hnn : (ob != ob) = false := by cases ob <;> rfl
        obtain ⟨⟨d0, d1⟩, _⟩ := HFc.out _ HF.out
        go_upto_region 38 with fail
        go_region_held3 (fun u => (u.cell? ⟨p, 2, none⟩ = some (.slice (some ⟨g, 0, none⟩) vl cc) ∧ u.cell? ⟨g, 2, none⟩ = some (.int .i64 gcv)) ∧ GtF W B B' C s H L V2 p g cc C LI2 MI2 gm cap rs xa xb u) (first
            | assumption
            | exact HFc.out _ HF.out
            | exact HFc.out _ (HFb.out _ _ HF.out (Below.refl _ _).drew)
            | exact HFc.out _ (HFb.out _ _ (by assumption : _ ∧ GtF W B B' C s H L V2 p g cc C LI2 MI2 gm cap rs xa xb _).2 b6)
            | exact HFc.out _ (HFb.out _ _ (by assumption : _ ∧ GtF W B B' C s H L V2 p g cc C LI2 MI2 gm cap rs xa xb _).2 b7)
            | exact HFc.out _ (HFb.out _ _ (by assumption : _ ∧ GtF W B B' C s H L V2 p g cc C LI2 MI2 gm cap rs xa xb _).2 b8)
            | exact HFc.out _ (HFb.out _ _ (by assumption : _ ∧ GtF W B B' C s H L V2 p g cc C LI2 MI2 gm cap rs xa xb _).2 b9)) (first
          | (go_at_call 29; refine (HF1.out _ (by first | exact HF.out | exact HFb.out _ _ HF.out (Below.refl _ _).drew | exact (by assumption : _ ∧ GtF W B B' C s H L V2 p g cc C LI2 MI2 gm cap rs xa xb _).2)).mono ?_; rintro e6 w6 ⟨rfl, b6⟩)
          | (go_at_call 30; refine (HF2.out _ (by first | exact (by assumption : _ ∧ GtF W B B' C s H L V2 p g cc C LI2 MI2 gm cap rs xa xb _).2 | exact HF.out | exact HFb.out _ _ HF.out (Below.refl _ _).drew)).mono ?_; rintro e7 w7 ⟨rfl, b7⟩)
          | (go_at_call 31; refine (HF3.out _ (by first | exact (by assumption : _ ∧ GtF W B B' C s H L V2 p g cc C LI2 MI2 gm cap rs xa xb _).2 | exact HF.out | exact HFb.out _ _ HF.out (Below.refl _ _).drew)).mono ?_; rintro e8 w8 ⟨rfl, b8⟩)
          | (go_at_call 32; refine (HF4.out _ (by first | exact (by assumption : _ ∧ GtF W B B' C s H L V2 p g cc C LI2 MI2 gm cap rs xa xb _).2 | exact HF.out | exact HFb.out _ _ HF.out (Below.refl _ _).drew)).mono ?_; rintro e9 w9 ⟨rfl, b9⟩))
        have HZ := Lib.hid (by assumption : _ ∧ GtF W B B' C s H L V2 p g cc C LI2 MI2 gm cap rs xa xb w9).2.e
        go_wp2_with fail
        exact ⟨⟨k + 1, V2, LI2, MI2, by omega, hL2, by go_num, HZ⟩, by simp [intOf]; omega⟩
    · obtain rfl : k = t.length := by omega
      have hnl : ¬ (t.length : Int) < (t.length : Int) := by omega
      have HE1 := Lib.hid (fun u (y : Below W.heap.size W u) => gStart_nil (HTy.out u y))
      have HE2 := Lib.hid (fun u (y : Below W.heap.size W u) => gStep_nil (HTy.out u y) 1 (by decide))
      have HE3 := Lib.hid (fun u (y : Below W.heap.size W u) => gAll_nil (HTy.out u y))
      have HE4 := Lib.hid (fun u => gOn_nil u)
      have HE5 := Lib.hid (fun u (x : AtE W H L B B' C s H L V V p g cc C LI MI u) => x.apart (by omega))
      go_wp2_with (first
        | (go_at_call 16; refine (HE1.out _ HS.out.b).mono ?_; rintro e6 w6 ⟨rfl, b6⟩; replace HS := Lib.hid (HS.out.below b6); clear b6)
        | (go_at_call 19; refine (HE2.out _ HS.out.b).mono ?_; rintro e7 w7 ⟨rfl, b7⟩; replace HS := Lib.hid (HS.out.below b7); clear b7)
        | (go_at_call 21; refine (HE3.out _ HS.out.b).mono ?_; rintro e8 w8 ⟨rfl, b8⟩; replace HS := Lib.hid (HS.out.below b8); clear b8)
        | (go_at_call 31; refine (HE4.out _).mono ?_; rintro e9 w9 ⟨rfl, b9⟩; replace HS := Lib.hid (HS.out.below b9); clear b9)
        | (go_at_call 33; refine (HE5.out _ HS.out).mono ?_; rintro e10 w10 ⟨rfl, b10⟩; have H10 := Lib.hid b10; clear b10))
      go_ret
      exact ⟨rfl, H10.out⟩
theorem GTells_walk (ht : TyOk W.heap.size W) (h l : Int) (q : Option Addr) (c : List Chg) (m : Nat) (hq : LiesAt W q (flat Chg.cells c)) (hn : (c.length : Int) ≤ 9223372036854775807) (q2 : Option Addr) (rs : List Int) (m2 : Nat) (hq2 : LiesAt W q2 (vals rs)) (hn2 : (rs.length : Int) ≤ 9223372036854775807) (q3 : Option Addr) (t : List Two) (m3 : Nat) (hq3 : LiesAt W q3 (flat Two.cells t)) (hwf : ∀ x ∈ t, x.wf) (hn3 : (t.length : Int) ≤ 9223372036854775807) : Calls Tryz.prog 3 #[.agg #[.int .i64 h, .int .i64 l], .slice q c.length m, .slice q2 rs.length m2, .slice q3 t.length m3] W fun e w' => e = .returned (.bool true) ∧ Below W.heap.size W w' := by
  by_cases hy : geOk h l = true ∧ h ≤ 80 ∧ c.length ≤ 60 ∧ rs.length ≤ 8 ∧ t.length ≤ 40
  · obtain ⟨a1, a2, a3, a4, a5⟩ := hy
    have hge := geOk_yes a1
    obtain ⟨H, rfl⟩ := Int.eq_ofNat_of_zero_le (show 0 ≤ h by omega)
    obtain ⟨L, rfl⟩ := Int.eq_ofNat_of_zero_le (show 0 ≤ l by omega)
    exact GTells_yes ht H L a1 (by omega) q c m hq a3 q2 rs m2 hq2 a4 q3 t m3 hq3 hwf a5
  · exact GTells_no ht h l q q2 q3 _ m _ m2 _ m3 hn hn2 hn3 hy
end
end Go.Proofs.YtiiioeodanmieaaGreatDoor
