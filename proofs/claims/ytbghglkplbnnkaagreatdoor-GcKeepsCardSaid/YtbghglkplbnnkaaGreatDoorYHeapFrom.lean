import Derived.Deep.CutRange
import Derived.Test.YtbghglkplbnnkaaGreatDoorYGcD
set_option linter.unusedVariables false
set_option linter.unusedSimpArgs false
namespace Go.Proofs.YtbghglkplbnnkaaGreatDoor
open Go.RowKit Sec
open Go.Proofs.YtbghglkplbnnkaaGreatDoor.Bk

def FrPost (h l : Int) (W R0 : List Int) (w : World) (e : Ending) (w' : World) : Prop :=
  match frm h l W R0 with
  | none => e = .returned (.tuple #[.agg #[.slice none 0 0, .slice none 0 0], .bool false]) ∧ Below w.heap.size w w'
  | some (rs, out, _) => ∃ G : GArg, e = .returned (.tuple #[G.val, .bool true]) ∧ (G.At w' ∧ G.In (fun k => w.heap.size ≤ k ∧ k < w'.heap.size)) ∧ G.r.l = rs ++ List.replicate (8 - rs.length) 0 ∧ G.n.map NArg.data = out ∧ Below w.heap.size w w'
theorem frm_step {h l : Int} {W A2 T A3 : List Int} {k : Nat} {NL : List NArg} {z : NArg} {X : Option (List (List Int × List Int) × List Int)} (hG : frmGo h l W (1000 - k) k A2 (NL.map NArg.data) = X) (hlt : k < A2.length) (hn : nods h l W A2 (slL W (A2.getD k 0)) = some (T, A3)) (hk : k < 1000) (hz : z.data = (T, wdL W (A2.getD k 0))) : frmGo h l W (1000 - (k + 1)) (k + 1) A3 ((NL ++ [z]).map NArg.data) = X := by
  rw [show 1000 - k = (1000 - (k + 1)) + 1 by omega, frmGo_next hlt hn] at hG
  rw [← hG, List.map_append, ← hz]
  rfl
section
variable {B b g c : Nat} {w : World} {h l : Int} {W : List Int}
set_option maxRecDepth 100000 in
set_option maxHeartbeats 8000000 in
theorem rfrom_is (k : HIs B w b h l W g c) (hWl : (W.length : Int) = 16 + 2 * h) (hr : Ints64 W) (ra : Option Addr) (R0 : List Int) (rc : Nat) (hR : LiesAt w ra (vals R0)) (hRl : R0.length ≤ 8) :
    Calls Tryz.prog 15 #[.pointer (some ⟨b, 0, none⟩), .slice ra R0.length rc] w fun e w' => FrPost h l W R0 w e w' := by
  obtain ⟨i0, hi, hz0, hz1, hz2⟩ := info_parts (show (Tryz.prog.info? 3).map (fun i => (i.zero, i.size, i.bytes)) = some (some (.int .i64 0), 1, 8) by kernel_rfl)
  have HI := Lib.hid (And.intro hi (And.intro hz0 (And.intro hz1 hz2)))
  clear hi hz0 hz1 hz2
  obtain ⟨iN, ni, nz0, nz1, nz2⟩ := info_parts (show (Tryz.prog.info? 61).map (fun i => (i.zero, i.size, i.bytes)) = some (some (.agg #[.slice none 0 0, .slice none 0 0]), 2, 48) by kernel_rfl)
  have HIN := Lib.hid (And.intro ni (And.intro nz0 (And.intro nz1 nz2)))
  clear ni nz0 nz1 nz2
  have HQ : ∃ Q, Q = FrPost h l W R0 w := ⟨_, rfl⟩
  obtain ⟨Q, hQ⟩ := HQ
  rw [← hQ]
  have HQ := Lib.hid hQ
  clear hQ
  have HC := Lib.hid (fun u (y : Below w.heap.size w u) => rcontrol_is (k.below y))
  have HK := Lib.hid k
  have HW := Lib.hid (And.intro hWl hr)
  have HR := Lib.hid hR
  have H0 := Lib.hid (Fr1.start w)
  have hRi : (R0.length : Int) ≤ 8 := by omega
  clear k hWl hr hR
  go_enter Tryz.func15, Tryz.ntmps15
  have hmk := mkEight
  go_wp2_with (go_at_call 39; refine (HC.out _ (Fr1.bel H0.out)).mono ?_; rintro e w1 ⟨rfl, b1⟩; have H1 := Lib.hid (H0.out.below b1); clear b1)
  clear H0 HC
  generalize w.heap.size + 1 + 1 + 1 = p at *
  generalize w.heap.size + 1 + 1 = q at *
  generalize w.heap.size + 1 = gr at *
  go_loopw [12] (fun i wr => ∃ (n : Nat) (ns A : List Int) (vA : Value), n ≤ R0.length ∧ i = .int .i64 (n : Int) ∧ ns.length = n ∧ Hid (nods h l W [] (R0.take n) = some (ns, A)) ∧ Hid (AtOk W A) ∧ Hid (∀ z ∈ ns, 0 ≤ z ∧ z ≤ 1000) ∧ Hid (Fr1 w w.heap.size gr p q (ns ++ List.replicate (8 - n) 0) vA A wr)) (fun i _ => R0.length - (intOf i).toNat)
  case atStart => exact ⟨0, [], [], .slice none 0 0, Nat.zero_le _, rfl, rfl, Lib.hid rfl, Lib.hid (AtOk.nil W), Lib.hid (fun z hz => by cases hz), H1⟩
  case round =>
    clear H1
    obtain ⟨n, ns, A, vA, hn, rfl, hnl, HD, HA, HB, HF⟩ := hrel
    have HLen : Hid (A.length ≤ 900) := Lib.hid (by
      have := HA.out.len
      omega)
    by_cases hlt : n < R0.length
    · obtain ⟨g2, og, rfl, hg2, e2⟩ := num_lies HR.out hlt
      have hi1 : (n : Int) < (R0.length : Int) := by omega
      have d2 := (HF.out.bel.cell (p := ⟨g2, og + n, none⟩) hg2).trans e2
      have HT : Hid (R0.take (n + 1) = R0.take n ++ [R0.getD n 0]) := Lib.hid (by rw [List.take_succ_eq_append_getElem hlt, List.getD_eq_getElem?_getD, List.getElem?_eq_getElem hlt]; rfl)
      have HE : Hid (R0 = R0.take n ++ R0.getD n 0 :: R0.drop (n + 1)) := Lib.hid (by
        rw [List.getD_eq_getElem?_getD, List.getElem?_eq_getElem hlt]
        show R0 = R0.take n ++ R0[n] :: R0.drop (n + 1)
        rw [← List.drop_eq_getElem_cons hlt, List.take_append_drop])
      have HN := Lib.hid (fun u (y : Below wr.heap.size wr u) => (HF.out.below y).node HK.out HW.out.1 HW.out.2 HLen.out (R0.getD n 0))
      clear e2
      cases hq : nod h l W A (R0.getD n 0) with
      | none =>
        rw [hq] at HN
        have hnone : frm h l W R0 = none := by
          have := nods_fall (R0.drop (n + 1)) HD.out hq
          rw [← HE.out] at this
          rw [frm, this]
        have HZ : Hid (∀ u', Below w.heap.size w u' → Q (.returned (.tuple #[.agg #[.slice none 0 0, .slice none 0 0], .bool false])) u') := Lib.hid (fun u' y => by
          rw [HQ.out, FrPost, hnone]
          exact ⟨rfl, y⟩)
        clear hq hnone HT HE
        generalize R0.getD n 0 = a at *
        go_wp2_with (first
          | (go_at_call 40; refine (HN.out _ (Below.refl _ _)).mono ?_; rintro e w2 ⟨rfl, b2⟩; have H2 := Lib.hid (And.intro (HF.out.1.2.rx.keep (b2.block w.heap.size (HF.out.1.1.kl _ (.inl rfl)).1)).two (geo_next HF.out.bel b2)); obtain ⟨⟨_, r0, r1, s0, s1⟩, _⟩ := H2.out; clear b2)
          | ((try simp only [Exit.inBlock, Exit.then]); refine bodyPost_ret (fr_results2 rfl rfl (H2.out.1.set2 _ _).load rfl) rfl ?_; exact HZ.out _ ((H2.out.2.setCell (p := ⟨w.heap.size, 0, none⟩) (Nat.le_refl _) _).setCell (p := ⟨w.heap.size, 1, none⟩) (Nat.le_refl _) _)))
      | some r =>
        obtain ⟨z, A1⟩ := r
        rw [hq] at HN
        obtain ⟨k1, k2, k3, k4, _⟩ := HA.out.nod HW.out.1 hq
        have HD1 : Hid (nods h l W [] (R0.take (n + 1)) = some (ns ++ [z], A1)) := Lib.hid (by
          rw [HT.out]
          exact nods_snoc HD.out hq)
        have HA1 := Lib.hid k1
        have HB1 : Hid (∀ y ∈ ns ++ [z], 0 ≤ y ∧ y ≤ 1000) := Lib.hid (fun y hy => by
          rcases List.mem_append.1 hy with hy | hy
          · exact HB.out y hy
          · rw [List.mem_singleton] at hy
            have := HA1.out.len
            omega)
        have HS := Lib.hid (root_set hnl (show n < 8 by omega) z)
        have hn8 : n < 8 := by omega
        have hn8i : (n : Int) < 8 := by omega
        clear hq HT HE k1 k2 k3 k4
        generalize R0.getD n 0 = a at *
        generalize ns ++ List.replicate (8 - n) 0 = R at *
        go_wp2_with (go_at_call 40; refine (HN.out _ (Below.refl _ _)).mono ?_; rintro e w2 ⟨v1, rfl, h2⟩; have H2 := Lib.hid h2; have q0 := h2.1.2.q0; obtain ⟨x0, x1⟩ := h2.arr hn8; have H3 := Lib.hid (h2.put n z); clear h2)
        rw [HS.out] at H3
        refine ⟨⟨n + 1, ns ++ [z], A1, v1, by omega, by go_num, by rw [List.length_append, hnl]; rfl, HD1, HA1, HB1, H3⟩, by simp [intOf]; omega⟩
    · obtain rfl : n = R0.length := by omega
      have hnl2 : ¬ (R0.length : Int) < (R0.length : Int) := by omega
      have HD0 : Hid (nods h l W [] R0 = some (ns, A)) := Lib.hid (by
        have := HD.out
        rwa [List.take_length] at this)
      have HRl : Hid (ns.length = R0.length) := Lib.hid hnl
      have HwR : Hid (∀ z ∈ ns ++ List.replicate (8 - R0.length) 0, (Lit.int .i64 z).wf = true) := Lib.hid (fun z hz => by
        rcases List.mem_append.1 hz with hz | hz
        · have := HB.out z hz
          exact wf_small (by omega) (by omega)
        · rw [List.eq_of_mem_replicate hz]
          decide)
      have H2 := Lib.hid (HF.out.done HwR.out)
      have Hrl : Hid ((⟨some ⟨gr, 0, none⟩, ns ++ List.replicate (8 - R0.length) 0, 8⟩ : IArg).l = ns ++ List.replicate (8 - R0.length) 0) := Lib.hid rfl
      clear HF HD HB HLen hlt hnl HwR HR
      generalize (⟨some ⟨gr, 0, none⟩, ns ++ List.replicate (8 - R0.length) 0, 8⟩ : IArg) = rr at *
      have HG0 : Hid (frmGo h l W (1000 - 0) 0 A (([] : List NArg).map NArg.data) = frmGo h l W 1000 0 A []) := Lib.hid rfl
      go_wp2_with fail
      generalize wr = wo at *
      go_loopw [15] (fun i wr => ∃ (k : Nat) (A2 : List Int) (vA vN : Value) (NL : List NArg), k ≤ A2.length ∧ i = .int .i64 (k : Int) ∧ NL.length = k ∧ Hid (AtOk W A2) ∧ Hid (frmGo h l W (1000 - k) k A2 (NL.map NArg.data) = frmGo h l W 1000 0 A []) ∧ Hid (Fr2 w w.heap.size p q rr vN NL vA A2 wr)) (fun i _ => 1000 - (intOf i).toNat)
      case atStart => exact ⟨0, A, vA, .slice none 0 0, [], Nat.zero_le _, rfl, rfl, HA, HG0, H2⟩
      case round =>
        clear H2 HG0 HA
        obtain ⟨k, A2, vA2, vN, NL, hk, rfl, hNL, HA, HG, HF⟩ := hrel
        obtain ⟨p0, oA⟩ := HF.out.p0
        obtain ⟨va, vc, rfl⟩ := owns_slice oA
        have HLen : Hid (A2.length ≤ 816) := Lib.hid HA.out.len
        have hl8 : A2.length ≤ 816 := HLen.out
        have hl8i : (A2.length : Int) ≤ 816 := by omega
        by_cases hlt : k < A2.length
        · obtain ⟨g7, q7, e7, _, _, _⟩ := own_blk oA (by omega)
          obtain ⟨rfl, rfl⟩ : va = some ⟨g7, 0, none⟩ ∧ vc = q7 := by simpa using e7
          have c7 := (owns_cell oA (hb_vals hlt)).1
          obtain ⟨ha0, ha1, ha2⟩ := HA.out.rg (A2.getD k 0) (by
            rw [List.getD_eq_getElem?_getD, List.getElem?_eq_getElem hlt]
            exact List.getElem_mem hlt)
          obtain ⟨a, hae⟩ := Int.eq_ofNat_of_zero_le (show 0 ≤ A2.getD k 0 by omega)
          rw [hae] at c7 ha0 ha1 ha2
          rw [Int.toNat_natCast] at ha2
          have hae2 := Lib.hid hae
          clear hae
          have haW : a < W.length := by omega
          have hki : (k : Int) < (A2.length : Int) := by omega
          have HKr := HK.out.below HF.out.b
          have kc := HKr.cs.2.2
          have kd := (HKr.at haW).1
          have HPa := Lib.hid (fun u => quiet_same (rparse_is (W.getD a 0) u))
          have hp15 := shOk_yes (pr_range (W.getD a 0))
          obtain ⟨P, hP⟩ := Int.eq_ofNat_of_zero_le hp15.1
          obtain ⟨M, hM⟩ := Int.eq_ofNat_of_zero_le hp15.2.2.1
          have hsl : slL W (a : Int) = celL W ((a : Int) + 1) P := by rw [slL, Int.toNat_natCast, hP, Int.toNat_natCast]
          have hwl : wdL W (a : Int) = celL W ((a : Int) + 1 + (P : Int)) M := by rw [wdL, Int.toNat_natCast, hP, hM, Int.toNat_natCast]
          have HSl := Lib.hid (And.intro hsl hwl)
          have hPl : a + 1 + P + M ≤ W.length := by omega
          have hP15 : (P : Int) ≤ 15 := by omega
          have hM30 : (M : Int) ≤ 30 := by omega
          rw [hP, hM] at HPa
          clear e7 oA HKr hsl hwl ha2 hp15 hP hM
          generalize W.getD a 0 = va0 at *
          generalize hdOk va0 = hd at *
          go_wp2_with fail
          go_quiet (first | (go_at_call 41; with_reducible exact Calls.quiet_of (HPa.out _)))
          have HFb := Lib.hid HF.out.b
          have HX := Lib.hid ((HF.out.below (bel_drewN (Below.refl _ _) nq)).box 61)
          clear HF p0 c7 kc kd HPa
          go_wp2_with fail
          rw [show (wr.drewN nq).heap.size = wr.heap.size from rfl] at HX
          have HXS : Hid (w.heap.size ≤ wr.heap.size) := Lib.hid HFb.out.size
          generalize wr.heap.size = xb at *
          generalize hwo : (wr.drewN nq).alloc (Obj.cells #[Value.slice none 0 0, Value.slice none 0 0] 61) = wx at *
          clear hwo
          go_loopw [20] (fun i wr => ∃ (m : Nat) (T A3 : List Int) (vA vS : Value), m ≤ P ∧ i = .int .i64 (m : Int) ∧ T.length = m ∧ Hid (nods h l W A2 ((celL W ((a : Int) + 1) P).take m) = some (T, A3)) ∧ Hid (AtOk W A3) ∧ Hid (k < A3.length ∧ A3.getD k 0 = (a : Int)) ∧ Hid (∀ z ∈ T, 0 ≤ z ∧ z ≤ 1000) ∧ Hid (Fr3 w w.heap.size p q xb rr vN NL vS T vA A3 wr)) (fun i _ => P - (intOf i).toNat)
          case atStart => exact ⟨0, [], A2, _, _, Nat.zero_le _, rfl, rfl, Lib.hid rfl, HA, Lib.hid ⟨hlt, hae2.out⟩, Lib.hid (fun z hz => by cases hz), HX⟩
          case round =>
            clear HX
            obtain ⟨m, T, A3, vA3, vS, hm, rfl, hTl, HD3, HA3, HK3, HB3, HF3⟩ := hrel
            obtain ⟨p0, oA⟩ := HF3.out.p0
            obtain ⟨g7', q7', e7, _, _, _⟩ := own_blk oA (by have := HK3.out.1; omega)
            have hk3 := HK3.out.1
            have hk3i : (k : Int) < (A3.length : Int) := by omega
            have c7 : wr.cell? ⟨g7', k, none⟩ = some (.int .i64 (a : Int)) := by
              have := oA
              rw [e7] at this
              rw [← HK3.out.2]
              exact (owns_cell this (hb_vals hk3)).1
            rw [e7] at p0
            have HKr := HK.out.below HF3.out.b
            have kc := HKr.cs.2.2
            have hl8 : A3.length ≤ 816 := HA3.out.len
            by_cases hlt3 : m < P
            · obtain ⟨x, hx⟩ := Int.eq_ofNat_of_zero_le (show 0 ≤ (a : Int) + 1 + (m : Int) by omega)
              have hxW : x < W.length := by omega
              have hxi : (x : Int) < (W.length : Int) := by omega
              have hm3 : (m : Int) < (P : Int) := by omega
              have hW8 : W.length ≤ 816 := HA3.out.le (fun e => by rw [e] at hk3; exact absurd hk3 (Nat.not_lt_zero k))
              have ha8 : (a : Int) ≤ 816 := by omega
              have hw1 : IntKind.i64.wrap ((a : Int) + 1) = (a : Int) + 1 := w64_nd (by omega) (by omega)
              have hw2 : IntKind.i64.wrap (x : Int) = (x : Int) := w64_nd (by omega) (by omega)
              have kd := (HKr.at hxW).1
              have hC := celL_at W ((a : Int) + 1) hlt3
              rw [show ((a : Int) + 1).toNat + m = x by omega] at hC
              have HY := Lib.hid hC
              have HN := Lib.hid (fun u (y : Below wr.heap.size wr u) => (HF3.out.below y).node HK.out HW.out.1 HW.out.2 (by omega) (W.getD x 0))
              clear hC oA HKr e7
              have hNg : ∃ (zn : Int) (ok : Bool), ∀ u, Below wr.heap.size wr u → Calls Tryz.prog 40 #[.pointer (some ⟨b, 0, none⟩), .pointer (some ⟨p, 0, none⟩), .int .i64 (W.getD x 0), .int .i64 (hSp W), .int .i64 (hFr W)] u fun e u' => e = .returned (.tuple #[.int .i64 zn, .bool ok]) ∧
                  ((ok = false ∧ nod h l W A3 (W.getD x 0) = none ∧ Two2 u' w.heap.size (.slice none 0 0) (.slice none 0 0) ∧ Below w.heap.size w u') ∨ (ok = true ∧ ∃ A4 v1, nod h l W A3 (W.getD x 0) = some (zn, A4) ∧ Fr3 w w.heap.size p q xb rr vN NL vS T v1 A4 u')) := by
                cases hq : nod h l W A3 (W.getD x 0) with
                | none =>
                  refine ⟨0, false, fun u y => ?_⟩
                  have := HN.out u y
                  rw [hq] at this
                  exact this.mono fun e u' ⟨h1, b2⟩ => ⟨h1, .inl ⟨rfl, rfl, (HF3.out.rbx.1.keep ((y.trans (b2.mono y.size)).block w.heap.size HF3.out.rbx.2)).two, geo_next HF3.out.b (y.trans (b2.mono y.size))⟩⟩
                | some r =>
                  obtain ⟨z, A4⟩ := r
                  refine ⟨z, true, fun u y => ?_⟩
                  have := HN.out u y
                  rw [hq] at this
                  exact this.mono fun e u' ⟨v1, h1, h2⟩ => ⟨h1, .inr ⟨rfl, A4, v1, rfl, h2⟩⟩
              obtain ⟨z, ok, hNg⟩ := hNg
              have HNg := Lib.hid hNg
              clear hNg HN
              generalize hyy : W.getD x 0 = y at *
              clear hyy
              go_upto_region 19 with fail
              go_cut [21, 22] from 78 to 111 (fun s21 s22 wx => s21 = .int .i64 z ∧ s22 = .bool ok ∧ Hid ((ok = false ∧ nod h l W A3 y = none ∧ Two2 wx w.heap.size (.slice none 0 0) (.slice none 0 0) ∧ Below w.heap.size w wx) ∨ (ok = true ∧ ∃ A4 v1, nod h l W A3 y = some (z, A4) ∧ Fr3 w w.heap.size p q xb rr vN NL vS T v1 A4 wx)))
              case first =>
                clear HG HK3 HSl hae2 HD3 HB3 HA3 HA HLen HY HF3 HQ
                go_region_with (first
                  | (go_at_call 40; refine (HNg.out _ (Below.refl _ _).drew).mono ?_; rintro e w2 ⟨rfl, h2⟩; have H2 := Lib.hid h2; clear h2))
                all_goals
                  go_wp2_with fail
                  go_meet
                  exact ⟨rfl, rfl, H2⟩
              case rest =>
                obtain ⟨rfl, rfl, hcut⟩ := hcut
                clear HNg kc p0 c7 kd hw1 hw2
                rcases hcut.out with ⟨hok, hq, h2⟩ | ⟨hok, A4, v1, hq, h2⟩
                · subst hok
                  have hnone : frm h l W R0 = none := by
                    have h1 := nods_fall ((celL W ((a : Int) + 1) P).drop (m + 1)) HD3.out hq
                    rw [← HY.out.2] at h1
                    have h2 : frmGo h l W (1000 - k) k A2 (NL.map NArg.data) = none := by
                      rw [show 1000 - k = (999 - k) + 1 by omega]
                      exact frmGo_fall hlt (by rw [hae2.out, HSl.out.1]; exact h1)
                    rw [frm, HD0.out]
                    simp only [← HG.out, h2]
                  have HZ : Hid (∀ u', Below w.heap.size w u' → Q (.returned (.tuple #[.agg #[.slice none 0 0, .slice none 0 0], .bool false])) u') := Lib.hid (fun u' y => by
                    rw [HQ.out, FrPost, hnone]
                    exact ⟨rfl, y⟩)
                  have H2 := Lib.hid h2
                  obtain ⟨⟨_, r0, r1, s0, s1⟩, _⟩ := h2
                  clear hq hnone hcut
                  go_wp2_with ((try simp only [Exit.inBlock, Exit.then]); refine bodyPost_ret (fr_results2 rfl rfl (H2.out.1.set2 _ _).load rfl) rfl ?_; exact HZ.out _ ((H2.out.2.setCell (p := ⟨w.heap.size, 0, none⟩) (Nat.le_refl _) _).setCell (p := ⟨w.heap.size, 1, none⟩) (Nat.le_refl _) _))
                · subst hok
                  obtain ⟨k1, k2, k3, k4, k5⟩ := HA3.out.nod HW.out.1 hq
                  have HD4 : Hid (nods h l W A2 ((celL W ((a : Int) + 1) P).take (m + 1)) = some (T ++ [z], A4)) := Lib.hid (by
                    rw [HY.out.1]
                    exact nods_snoc HD3.out hq)
                  have HA4 := Lib.hid k1
                  have HK4 : Hid (k < A4.length ∧ A4.getD k 0 = (a : Int)) := Lib.hid ⟨by omega, (k5 k hk3).trans HK3.out.2⟩
                  have HB4 : Hid (∀ y ∈ T ++ [z], 0 ≤ y ∧ y ≤ 1000) := Lib.hid (fun y hy => by
                    rcases List.mem_append.1 hy with hy | hy
                    · exact HB3.out y hy
                    · rw [List.mem_singleton] at hy
                      have := HA4.out.len
                      omega)
                  have hA1 : T.length + 1 ≤ maxLen := by unfold maxLen; omega
                  have hA2 : (T.length + 1) * 8 ≤ 140737488355328 := by omega
                  have HTl := Lib.hid hTl
                  have H2 := Lib.hid h2
                  obtain ⟨x0, xf, _, _⟩ := h2.cells
                  have hsz := h2.b.size
                  clear hq k1 k2 k3 k4 k5 hTl hcut h2 HG HK3 HSl hae2 HD3 HB3 HA3 HA HLen HY HF3 HQ
                  go_wp2_with (first
                    | (refine wpList_append_lies _ rfl (.tmp 107) (.tmp 109) 24 rfl w.heap.size 3 i0 _ 1 8 Tryz.underlying24 HI.out.1 HI.out.2.1 HI.out.2.2.1 HI.out.2.2.2 rfl (by decide) vS T.length (vals T) rfl (H2.out.os.alloc _) _ 1 1 [.int .i64 z] rfl rfl ?_ (by intro u hu; simp at hu; rw [hu]; rfl) (by decide) hA1 hA2 (Nat.le_trans hsz (by simp)) _ rfl ?_
                       · exact World.news_of_block (heap_alloc_last _ _)
                       intro g5 cap w5 hown5 hgr5 hat5 hlt5
                       have HP := Lib.hid (H2.out.push ((Below.refl wc.heap.size wc).alloc (Nat.le_refl _) _) rfl hown5 hgr5 hat5 hlt5)
                       obtain ⟨e5, f5⟩ := grown_cell ((Below.refl wc.heap.size wc).alloc (Nat.le_refl _) _) hgr5 H2.out.sep.1 H2.out.sep.2 0
                       have x5 := e5.trans x0
                       have xf5 := f5.trans xf
                       clear hown5 hgr5 hat5 hlt5 e5 f5))
                  exact ⟨⟨m + 1, T ++ [z], A4, v1, _, by omega, by go_num, by rw [List.length_append, HTl.out]; rfl, HD4, HA4, HK4, HB4, HP⟩, by simp [intOf]; omega⟩
            · obtain rfl : m = P := by omega
              have hnlP : ¬ (m : Int) < (m : Int) := by omega
              have HD5 : Hid (nods h l W A2 (celL W ((a : Int) + 1) m) = some (T, A3)) := Lib.hid (by
                have := HD3.out
                rwa [List.take_of_length_le (by rw [celL_len]; exact Nat.le_refl _)] at this)
              obtain ⟨x, hx⟩ := Int.eq_ofNat_of_zero_le (show 0 ≤ (a : Int) + 1 + (m : Int) by omega)
              obtain ⟨x1, hx1⟩ := Int.eq_ofNat_of_zero_le (show 0 ≤ (x : Int) + (M : Int) by omega)
              have hW8 : W.length ≤ 816 := HA3.out.le (fun e => by rw [e] at hk3; exact absurd hk3 (Nat.not_lt_zero k))
              have ha8 : (a : Int) ≤ 816 := by omega
              have hxl : (x1 : Int) ≤ (W.length : Int) := by omega
              have hx01 : (x : Int) ≤ (x1 : Int) := by omega
              have hxM : x + M ≤ W.length := by omega
              have hx1n : x1 - x = M := by omega
              have hw1 : IntKind.i64.wrap ((a : Int) + 1) = (a : Int) + 1 := w64_nd (by omega) (by omega)
              have hw2 : IntKind.i64.wrap (x : Int) = (x : Int) := w64_nd (by omega) (by omega)
              have hw3 : IntKind.i64.wrap (x1 : Int) = (x1 : Int) := w64_nd (by omega) (by omega)
              have hlw := his_lies HKr hxM (a := (a : Int) + 1 + (m : Int)) (by omega)
              have hcc : W.length ≤ c := by
                obtain ⟨_, cc, e, hc, _⟩ := own_blk HKr.o (by omega)
                obtain ⟨_, rfl⟩ : _ ∧ c = cc := by simpa using e
                exact hc
              have hc1 : x1 ≤ c := by omega
              have hc2 : x ≤ x1 := by omega
              obtain ⟨ad, had⟩ : ∃ ad : Addr, (if c = x then some (⟨g, 0, none⟩ : Addr) else some ⟨g, x, none⟩) = some ad := by
                by_cases e : c = x
                · exact ⟨_, if_pos e⟩
                · exact ⟨_, if_neg e⟩
              have HLw : Hid (LiesAt wr (some ad) (vals (celL W ((a : Int) + 1 + (m : Int)) M))) := Lib.hid (by
                rw [← had]
                by_cases e : c = x
                · have hM0 : M = 0 := by omega
                  rw [hM0]
                  exact fun j u hu => by cases hu
                · rw [if_neg e]
                  exact hlw)
              clear hlw
              obtain ⟨x0c, x0f, x1c, x1f⟩ := HF3.out.cells
              have HTl := Lib.hid hTl
              have hM1 : 0 + M ≤ maxLen := by unfold maxLen; omega
              have hM2 : (0 + M) * 8 ≤ 140737488355328 := by omega
              have he7 := e7
              clear oA HKr e7 hTl
              have HWl : Hid ((celL W ((a : Int) + 1 + (m : Int)) M).length = M) := Lib.hid (celL_len _ _ _)
              have HWr : Hid (∀ z ∈ celL W ((a : Int) + 1 + (m : Int)) M, -9223372036854775808 ≤ z ∧ z ≤ 9223372036854775807) := Lib.hid (fun z hz => by
                obtain ⟨i, _, rfl⟩ := List.mem_map.1 hz
                exact HW.out.2 _)
              have HWD : Hid (celL W ((a : Int) + 1 + (m : Int)) M = wdL W (a : Int)) := Lib.hid HSl.out.2.symm
              generalize celL W ((a : Int) + 1 + (m : Int)) M = ws at *
              have hwsl : (vals ws).length = M := by simp [vals]; exact HWl.out
              have hld : ∀ u : World, u.heap = wr.heap → (loadCellsFrom ad 0 M #[]).run Tryz.prog u = .ok (vals ws).toArray u := fun u hu => by
                have h1 := run_loadCellsFrom (P := Tryz.prog) (w := u) ad (fun j => (vals ws).getD j (.int .i64 0)) M 0 #[] (fun j hj => by
                  obtain ⟨b', e, _, hc⟩ := HLw.out j ((vals ws).getD j (.int .i64 0)) (by rw [List.getD_eq_getElem?_getD, List.getElem?_eq_getElem (by omega)]; rfl)
                  cases e
                  rw [Nat.zero_add]
                  unfold World.cell? at hc ⊢
                  rw [hu]
                  exact hc)
                have h2 : (#[] : Array Value) ++ ((List.range M).map fun j => (vals ws).getD (0 + j) (.int .i64 0)).toArray = (vals ws).toArray := by
                  apply Array.ext
                  · simp [hwsl]
                  · intro j h1 h2
                    simp at h1 h2 ⊢
                    rw [List.getElem?_eq_getElem (by simpa using h2)]
                    rfl
                rwa [h2] at h1
              have hld1 := hld wr.drew rfl
              have hld2 := hld wr.drew.drew rfl
              have hlm1 : ¬ ((9223372036854775807 : Int) < (M : Int) ∧ Tryz.t3.bytes = 0) := by omega
              have hlm2 : ¬ (281474976710656 < Builtin.nextslicecap M 0 * Tryz.t3.bytes) := by
                have hb : Tryz.t3.bytes = 8 := by kernel_rfl
                have hn : Builtin.nextslicecap M 0 ≤ M := by
                  unfold Builtin.nextslicecap
                  split
                  · exact Nat.le_refl _
                  · rw [if_pos (by decide)]
                    exact Nat.zero_le _
                rw [hb]
                omega
              clear hld
              have hxl' := HF3.out.sep.1
              have hxo : ∀ o : Obj, (wr.alloc o).cell? ⟨xb, 1, none⟩ = some (.slice none 0 0) := fun o => (((Below.refl wr.heap.size wr).alloc (Nat.le_refl _) o).cell (p := ⟨xb, 1, none⟩) hxl').trans x1c
              have hxfo : ∀ o : Obj, (wr.alloc o).frozen? ⟨xb, 1, none⟩ = false := fun o => (((Below.refl wr.heap.size wr).alloc (Nat.le_refl _) o).frozen (p := ⟨xb, 1, none⟩) hxl').trans x1f
              have HwT : Hid (∀ z ∈ T, (Lit.int .i64 z).wf = true) := Lib.hid (fun z hz => by
                have := HB3.out z hz
                exact wf_small (by omega) (by omega))
              have HwW : Hid (∀ z ∈ ws, (Lit.int .i64 z).wf = true) := Lib.hid (fun z hz => by
                obtain ⟨h0, h1⟩ := HWr.out z hz
                exact wf_small h0 h1)
              have hTm : T.length ≤ maxLen := by
                have := HTl.out
                unfold maxLen
                omega
              have hMm : M ≤ maxLen := by unfold maxLen; omega
              have hN1 : NL.length + 1 ≤ maxLen := by unfold maxLen; omega
              have hN2 : (NL.length + 1) * 48 ≤ 140737488355328 := by omega
              have HNL := Lib.hid hNL
              have HKl := Lib.hid (show k + 1 ≤ A3.length from hk3)
              clear hNL
              go_upto_region 23 with fail
              go_cut [17] from 57 to 142 (fun s17 wx => s17 = .int .i64 (M : Int) ∧ Hid (∃ z : NArg, z.data = (T, ws) ∧ Fr4 w w.heap.size p q xb rr vN NL z vA3 A3 wx))
              case first =>
                clear HG HK3 HD5 HSl hae2 HNL HKl HD3 HB3 HA3 HA HLen
                by_cases hM0 : M = 0
                · have hM00 : M = 0 := hM0
                  have hws : ws = [] := List.eq_nil_of_length_eq_zero (by rw [HWl.out]; exact hM00)
                  obtain ⟨z, z1, zz, z3⟩ := HF3.out.words (ws := ws) (u2 := wr.drew) (Below.refl _ _) (vW := .slice none 0 0) (by rw [hws]; exact World.ownsRow_nil _ _ _ _) ⟨rfl, rfl, rfl, Nat.le_refl _, fun _ _ _ => rfl⟩ HwT.out HwW.out hTm (by rw [hws]; exact Nat.zero_le _)
                  have HP : Hid (∃ z : NArg, z.data = (T, ws) ∧ Fr4 w w.heap.size p q xb rr vN NL z vA3 A3 ((wr.setCell ⟨xb, 1, none⟩ (.slice none 0 0)).drew)) := Lib.hid ⟨z, z1, z3⟩
                  clear z1 z3 zz
                  go_region
                  go_wp2_with fail
                  go_meet
                  exact ⟨by rw [hM00]; rfl, HP⟩
                · have hcx : ¬ c = x := by omega
                  obtain rfl : ad = ⟨g, x, none⟩ := by
                    rw [if_neg hcx] at had
                    simpa using had.symm
                  clear had
                  have HP := Lib.hid (HF3.out.wordsAt HWl.out hMm HwT.out HwW.out hTm)
                  go_region
                  go_wp2_with fail
                  go_meet
                  exact ⟨rfl, HP⟩
              case rest =>
                obtain ⟨rfl, hcut⟩ := hcut
                obtain ⟨z, z1, h4⟩ := hcut.out
                have HG1 := Lib.hid (frm_step HG.out hlt (by rw [hae2.out, HSl.out.1]; exact HD5.out) (by omega) (show z.data = (T, wdL W (A2.getD k 0)) by rw [z1, hae2.out, ← HWD.out]))
                have H4 := Lib.hid h4
                obtain ⟨q3, n3, qc, qf, xc0, xc1, oN, bN⟩ := h4.sep
                have hbN := bN.size
                have HON := Lib.hid (And.intro oN (And.intro q3 n3))
                clear hcut h4 z1 oN bN q3 n3 HF3 HLw x0c x0f x1c x1f hxo hxfo hxl' kc p0 c7 hld1 hld2 HD5 HSl hae2 HG HWD HwT HwW HWl HWr HTl
                unfold IArg.val at xc0 xc1
                go_wp2_with (first
                  | (refine wpList_append_lies _ rfl (.tmp 138) (.tmp 140) 25 rfl w.heap.size 61 iN _ 2 48 Tryz.underlying25 HIN.out.1 HIN.out.2.1 HIN.out.2.2.1 HIN.out.2.2.2 rfl (by decide) vN NL.length (flat NArg.cells NL) rfl (HON.out.1.alloc _) _ 1 1 z.cells rfl rfl ?_ (by intro u hu; simp [NArg.cells, IArg.val] at hu; rcases hu with rfl | rfl <;> rfl) (by decide) hN1 hN2 (Nat.le_trans hbN (by simp)) _ rfl ?_
                     · exact World.news_of_block (heap_alloc_last _ _)
                     intro g6 cap6 w7 hown6 hgr6 hat6 hlt6
                     have HP := Lib.hid (H4.out.push ((Below.refl wc.heap.size wc).alloc (Nat.le_refl _) _) rfl hown6 hgr6 hat6 hlt6)
                     obtain ⟨e7, f7⟩ := grown_cell ((Below.refl wc.heap.size wc).alloc (Nat.le_refl _) _) hgr6 HON.out.2.1 HON.out.2.2 1
                     have x7 := e7.trans qc
                     have xf7 := f7.trans qf
                     clear hown6 hgr6 hat6 hlt6 e7 f7))
                exact ⟨⟨k + 1, A3, vA3, _, NL ++ [z], HKl.out, by go_num, by rw [List.length_append, HNL.out]; rfl, HA3, HG1, HP⟩, by simp [intOf]; omega⟩
        · obtain rfl : k = A2.length := by omega
          have hnl3 : ¬ (A2.length : Int) < (A2.length : Int) := by omega
          have HE : Hid (frm h l W R0 = some (ns, NL.map NArg.data, A2)) := Lib.hid (by
            have h1 := HG.out
            rw [show 1000 - A2.length = (999 - A2.length) + 1 by omega, frmGo_end (Nat.lt_irrefl _)] at h1
            rw [frm, HD0.out]
            simp only [← h1])
          clear oA
          have hNm : NL.length ≤ maxLen := by unfold maxLen; omega
          obtain ⟨na, nc, rfl⟩ := HF.out.nodes
          have hT := HF.out.told (Nat.le_refl _) hNm
          obtain ⟨q0, q1, hrb, hG⟩ := hT
          have HT := Lib.hid (And.intro hrb.two hG)
          obtain ⟨⟨_, r0, r1, s0, s1⟩, _⟩ := HT.out
          have HZ : Hid (∀ (G : GArg) u', G.r = rr → G.n = NL → G.val = .agg #[rr.val, .slice na NL.length nc] → (G.At u' ∧ G.In (fun k => w.heap.size ≤ k ∧ k < u'.heap.size)) → Below w.heap.size w u' → Q (.returned (.tuple #[.agg #[rr.val, .slice na NL.length nc], .bool true])) u') := Lib.hid (fun G u' g1 g2 g3 g4 g5 => by
            rw [HQ.out, FrPost, HE.out]
            exact ⟨G, by rw [g3], g4, by rw [g1, Hrl.out, HRl.out], by rw [g2], g5⟩)
          clear hG hrb HE HG
          unfold IArg.val at *
          clear hNL
          go_wp2_with ((try simp only [Exit.inBlock, Exit.then]); refine bodyPost_ret (fr_results2 rfl rfl (HT.out.1.set2 _ _).load rfl) rfl ?_; obtain ⟨G, g1, g2, g3, g4, g5⟩ := HT.out.2 _ _; exact HZ.out G _ g1 g2 g3 g4 g5)
end
end Go.Proofs.YtbghglkplbnnkaaGreatDoor
