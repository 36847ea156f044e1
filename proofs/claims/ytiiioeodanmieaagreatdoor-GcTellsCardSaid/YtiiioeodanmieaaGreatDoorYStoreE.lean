import Derived.Test.YtiiioeodanmieaaGreatDoorYStoreD
import Derived.Test.YtiiioeodanmieaaGreatDoorYLoopC
set_option linter.unusedVariables false
set_option linter.unusedSimpArgs false
-- StoreRead
namespace Go.Proofs.YtiiioeodanmieaaGreatDoor
open Go.RowKit Sec
open Go.Proofs.YtiiioeodanmieaaGreatDoor.Bk

set_option maxRecDepth 100000 in
set_option maxHeartbeats 1000000 in
theorem read_is3 {B : Nat} {G : Nat → Prop} {w : World} {p : Nat} {D : Dsk} (h : AtK B G w p D) (hon : D.on = true) (at_ : Nat) (hat : at_ ≤ 100000) (a b c : ByteArray) (e0 : D.now[at_]? = some a) (e1 : D.now[at_ + 1]? = some b) (e2 : D.now[at_ + 2]? = some c) :
    Calls Tryz.prog 219 #[.pointer (some ⟨p, 0, none⟩), .int .i64 (at_ : Int), .int .i64 3] w fun e w' => e = .returned (.tuple #[.slice (some ⟨w.heap.size, 0, none⟩) 3 3, .nilIface]) ∧ Below w.heap.size w w' ∧ w'.ownsRow w.heap.size 9 1 (.slice (some ⟨w.heap.size, 0, none⟩) 3 3) 3 (txts [a, b, c]) := by
  have hl : at_ + 2 < D.now.length := (List.getElem?_eq_some_iff.1 e2).1
  have hll := h.shape.1
  have HV : Hid (∀ (k : Nat) (u : World), k < 3 → AtK B G u p D → Calls Tryz.prog 170 #[.pointer (some ⟨p, 0, none⟩), .int .i64 ((at_ : Int) + (k : Int))] u fun e w' => e = .returned (.tuple #[.string ([a, b, c].getD k ByteArray.empty), .int .i64 0]) ∧ w' = u) := Lib.hid (fun k u hk hu => by
    have hm : D.mayR ((at_ : Int) + (k : Int)) = 0 := by
      have : D.has ((at_ : Int) + (k : Int)) = true := by simp only [Dsk.has, decide_eq_true_eq]; omega
      rw [Dsk.mayR, hon, if_pos rfl, this, if_pos rfl]
    have ha : D.at_ ((at_ : Int) + (k : Int)) = [a, b, c].getD k ByteArray.empty := by
      rw [Dsk.at_, show ((at_ : Int) + (k : Int)).toNat = at_ + k by omega, List.getD_eq_getElem?_getD]
      have : k = 0 ∨ k = 1 ∨ k = 2 := by omega
      rcases this with rfl | rfl | rfl
      · rw [Nat.add_zero, e0]; rfl
      · rw [e1]; rfl
      · rw [e2]; rfl
    have := Read_k hu ((at_ : Int) + (k : Int))
    rw [hm, if_pos rfl, ha] at this
    exact this)
  have HA := Lib.hid h
  have hati : (at_ : Int) ≤ 100000 := by omega
  clear h hon e0 e1 e2 hl hll
  have hmk : (Instr.makeSlice 169 (.int .i64 3) (.int .i64 3)).run Tryz.prog w = .ok (.slice (some ⟨w.heap.size, 0, none⟩) 3 3) (w.alloc (.cells (Array.replicate 3 (.string .empty)) 9)) := mkTexts w 3 (by omega)
  rw [rowK_zero (txts [a, b, c]) _ 3 rfl] at hmk
  have HE := Lib.hid (owns_laid w w.heap.size 9 (txts [a, b, c]) 3 rfl (Nat.le_refl _) (by unfold maxLen; omega))
  rw [← rowK_end (txts [a, b, c]) (.string .empty) 3 rfl] at HE
  go_enter Tryz.func219, Tryz.ntmps219
  go_wp2
  go_loopw [16] (fun i wr => ∃ k : Nat, k ≤ 3 ∧ i = .int .i64 (k : Int) ∧ wr = w.alloc (.cells (rowK (txts [a, b, c]) (.string .empty) k) 9)) (fun i _ => 3 - (intOf i).toNat)
  case atStart => exact ⟨0, Nat.zero_le _, rfl, rfl⟩
  case round =>
    obtain ⟨k, hk, rfl, rfl⟩ := hrel
    by_cases hlt : k < 3
    · have hck := rowK_at (txts [a, b, c]) (.string .empty) k hlt
      have HN := Lib.hid (rowK_next (txts [a, b, c]) (.string .empty) k hlt)
      have hki : (k : Int) < 3 := by omega
      have HV1 := Lib.hid (HV.out k (w.alloc (.cells (rowK (txts [a, b, c]) (.string .empty) k) 9)) hlt (HA.out.alloc _))
      have HT : Hid ((txts [a, b, c]).getD k (.string .empty) = .string ([a, b, c].getD k ByteArray.empty)) := Lib.hid (by
        have : k = 0 ∨ k = 1 ∨ k = 2 := by omega
        rcases this with rfl | rfl | rfl <;> rfl)
      rw [HT.out] at HN
      generalize [a, b, c].getD k ByteArray.empty = tk at *
      clear hmk
      go_wp2_with (go_at_call 170; refine HV1.out.mono ?_; rintro e' w' ⟨rfl, rfl⟩)
      refine ⟨⟨k + 1, by omega, by go_num, ?_⟩, by simp [intOf]; omega⟩
      rw [HN.out, Array.set!_eq_setIfInBounds]
    · obtain rfl : k = 3 := by omega
      have hn3 : ¬ ((3 : Nat) : Int) < 3 := by omega
      clear hlt hk hmk
      go_wp2
      go_ret2
      exact ⟨rfl, (Below.refl _ _).alloc (Nat.le_refl _) _, HE.out⟩
def PageIn (s : List ByteArray) (q no : Nat) (X : List Int) : Prop :=
  ∃ a b c, s[2 + 6 * no + 3 * (q % 2)]? = some a ∧ s[2 + 6 * no + 3 * (q % 2) + 1]? = some b ∧ s[2 + 6 * no + 3 * (q % 2) + 2]? = some c ∧ atIs no q [a, b, c] = true ∧ atC no q [a, b, c] = X
set_option maxRecDepth 100000 in
set_option maxHeartbeats 4000000 in
theorem cellsOf_is {B : Nat} {G : Nat → Prop} {w : World} {p : Nat} {D : Dsk} (h : AtK B G w p D) (hon : D.on = true) (q : Nat) (hd e : Int) (H L : Nat) (hg : 8 ≤ H ∧ H ≤ 400 ∧ 4 ≤ L ∧ L ≤ 300) (hq : q < 4294967296) (C : List Int) (hpg : ∀ no, no < pgs H → PageIn D.now q no (pgCells C no)) :
    Calls Tryz.prog 193 #[.pointer (some ⟨p, 0, none⟩), .agg #[.int .i64 (q : Int), .int .i64 hd, .int .i64 e, .int .i64 (H : Int), .int .i64 (L : Int)]] w fun r w' => ∃ v, r = .returned (.tuple #[v, .nilIface]) ∧ Below w.heap.size w w' ∧ w'.ownsRow w.heap.size 3 1 v (16 * pgs H) (vals (joinP C (pgs H))) := by
  obtain ⟨i0, hi, hz0, hz1, hz2⟩ := info_parts st_intInfo
  have HI := Lib.hid (And.intro hi (And.intro hz0 (And.intro hz1 hz2)))
  clear hi hz0 hz1 hz2
  have hp := (pgs_le hg.2.1).1
  have HG : Hid (∀ u, Calls Tryz.prog 118 #[.agg #[.int .i64 (q : Int), .int .i64 hd, .int .i64 e, .int .i64 (H : Int), .int .i64 (L : Int)]] u fun r w' => r = .returned (.agg #[.int .i64 (H : Int), .int .i64 (L : Int)]) ∧ Below u.heap.size u w') := Lib.hid (fun u => geoOf_is ⟨(q : Int), hd, e, (H : Int), (L : Int)⟩ u)
  have HS : Hid (∀ u, Calls Tryz.prog 187 #[.agg #[.int .i64 (q : Int), .int .i64 hd, .int .i64 e, .int .i64 (H : Int), .int .i64 (L : Int)]] u fun r w' => r = .returned (.int .i64 ((q % 2 : Nat) : Int)) ∧ Below u.heap.size u w') := Lib.hid (fun u => (slotOf_is ⟨(q : Int), hd, e, (H : Int), (L : Int)⟩ (Int.natCast_nonneg _) (by show (q : Int) < _; omega) u).mono fun r w' ⟨h1, h2⟩ => ⟨h1.trans (geo_i (by show (q : Int) % 2 = _; omega)), h2⟩)
  have HP : Hid (∀ u, Calls Tryz.prog 161 #[.agg #[.int .i64 (H : Int), .int .i64 (L : Int)]] u fun r w' => r = .returned (.int .i64 ((pgs H : Nat) : Int)) ∧ Below u.heap.size u w') := Lib.hid (fun u => (gpages_is H L u).mono fun r w' ⟨h1, h2⟩ => ⟨by rw [h1, ge_pages hg], h2⟩)
  have HA : Hid (∀ (no : Nat) u, no < pgs H → Calls Tryz.prog 186 #[.agg #[.int .i64 (H : Int), .int .i64 (L : Int)], .int .i64 (no : Int), .int .i64 ((q % 2 : Nat) : Int)] u fun r w' => r = .returned (.int .i64 ((2 + 6 * no + 3 * (q % 2) : Nat) : Int)) ∧ Below u.heap.size u w') := Lib.hid (fun no u hn => (gpage_is H L no _ u).mono fun r w' ⟨h1, h2⟩ => ⟨by rw [h1, ge_page hg hn (Nat.mod_lt _ (by omega))], h2⟩)
  have HR : Hid (∀ (no : Nat), no < pgs H → ∃ T : List ByteArray, (∀ u, AtK B G u p D → Calls Tryz.prog 219 #[.pointer (some ⟨p, 0, none⟩), .int .i64 ((2 + 6 * no + 3 * (q % 2) : Nat) : Int), .int .i64 3] u fun r w' => r = .returned (.tuple #[.slice (some ⟨u.heap.size, 0, none⟩) 3 3, .nilIface]) ∧ Below u.heap.size u w' ∧ w'.ownsRow u.heap.size 9 1 (.slice (some ⟨u.heap.size, 0, none⟩) 3 3) 3 (txts T)) ∧
      ∀ (g : Nat) u, LiesAt u (some ⟨g, 0, none⟩) (txts T) → Calls Tryz.prog 220 #[.int .i64 (no : Int), .int .i64 (q : Int), .slice (some ⟨g, 0, none⟩) 3 3] u fun r w' => ∃ v, r = .returned (.tuple #[v, .bool true]) ∧ Below u.heap.size u w' ∧ w'.ownsRow u.heap.size 3 1 v 16 (vals (pgCells C no))) := Lib.hid (fun no hn => by
    obtain ⟨a, b, c, s0, s1, s2, i1, i2⟩ := hpg no hn
    refine ⟨[a, b, c], fun u hu => read_is3 hu hon _ (by have := Nat.mod_lt q (show 0 < 2 by omega); omega) a b c s0 s1 s2, fun g u hu => ?_⟩
    have := pat_is (no : Int) (q : Int) (some ⟨g, 0, none⟩) [a, b, c] 3 u hu (by show 3 ≤ maxLen; unfold maxLen; omega) (fun _ => ⟨Nat.le_refl _, g, 0, rfl⟩)
    rw [i1, i2, pgCells_len] at this
    exact this)
  have HD0 := Lib.hid h
  have hq2 : q % 2 < 2 := Nat.mod_lt _ (by omega)
  have HJ := Lib.hid (fun n => joinP_next C n)
  have HJl := Lib.hid (fun n => pgCells_len C n)
  clear h hon hpg hg hq
  generalize hP : pgs H = P at *
  clear hP
  generalize hs : q % 2 = s at *
  clear hs
  go_enter Tryz.func193, Tryz.ntmps193
  go_wp2_with (first
    | (go_at_call 118
       refine (HG.out _).mono ?_
       rintro e' w1 ⟨rfl, b1⟩
       have R1 := Lib.hid (Row5.laid b1)
       clear b1)
    | (go_at_call 161
       refine (HP.out _).mono ?_
       rintro e' w3 ⟨rfl, b3⟩
       have R3 := Lib.hid (And.intro ((R1.out.1.alloc _).below b3) (And.intro (GBox.laid b3).1 (R1.out.2.trans ((GBox.laid b3).2.mono R1.out.2.size))))
       clear b3))
  have HC := Lib.hid (seven R3.out.1.lt R3.out.2.1.lt R3.out.1.c0 R3.out.1.c1 R3.out.1.c2 R3.out.1.c3 R3.out.1.c4 R3.out.2.1.c0 R3.out.2.1.c1)
  generalize w1.heap.size = b1 at *
  have hs3 := R3.out.2.2.size
  go_loopw [7, 17] (fun l i wr => ∃ k, k ≤ P ∧ i = .int .i64 (k : Int) ∧ Hid (Below w3.heap.size w3 wr ∧ wr.ownsRow w3.heap.size 3 1 l (16 * k) (vals (joinP C k)))) (fun _ i _ => P - (intOf i).toNat)
  case atStart => exact ⟨0, Nat.zero_le _, rfl, Lib.hid ⟨Below.refl _ _, World.ownsRow_nil _ _ _ _⟩⟩
  case round =>
    obtain ⟨k, hk, rfl, HO⟩ := hrel
    have hki : (k : Int) ≤ 51 := by omega
    obtain ⟨c0, c1, c2, c3, c4, c5, c6⟩ := HC.out _ HO.out.1
    by_cases hlt : k < P
    · have hi1 : (k : Int) < (P : Int) := by omega
      have HA1 := Lib.hid (fun u => HA.out k u hlt)
      obtain ⟨T, hT1, hT2⟩ := HR.out k hlt
      have HT1 := Lib.hid hT1
      have HT2 := Lib.hid hT2
      have HD := Lib.hid (fun u (b : Below wr.heap.size wr u) => HC.out u (HO.out.1.trans (b.mono HO.out.1.size)))
      have HDK := Lib.hid (fun u (b : Below wr.heap.size wr u) => HD0.out.below (R3.out.2.2.trans ((HO.out.1.trans (b.mono HO.out.1.size)).mono hs3)))
      have HJ1 := Lib.hid (HJ.out k)
      clear hT1 hT2
      generalize 2 + 6 * k + 3 * s = at_ at *
      go_wp2
      go_region_held3 (fun u => u.cell? ⟨w.heap.size, 0, none⟩ = some (.int .i64 (q : Int)) ∧ u.cell? ⟨w.heap.size, 1, none⟩ = some (.int .i64 hd) ∧ u.cell? ⟨w.heap.size, 2, none⟩ = some (.int .i64 e) ∧ u.cell? ⟨w.heap.size, 3, none⟩ = some (.int .i64 (H : Int)) ∧ u.cell? ⟨w.heap.size, 4, none⟩ = some (.int .i64 (L : Int)) ∧ u.cell? ⟨b1, 0, none⟩ = some (.int .i64 (H : Int)) ∧ u.cell? ⟨b1, 1, none⟩ = some (.int .i64 (L : Int))) (first
          | assumption
          | exact HD.out _ (Below.refl _ _)
          | exact HD.out _ (Below.refl _ _).drew
          | exact HD.out _ b4
          | exact HD.out _ b5
          | exact HD.out _ H6.out.1) (first
        | (go_at_call 187
           refine (HS.out _).mono ?_
           rintro e' w4 ⟨rfl, b4⟩
           replace b4 : Below wr.heap.size wr w4 := (by first | exact Below.refl _ _ | exact (Below.refl _ _).drew : Below wr.heap.size wr _).trans (b4.mono (by first | exact Nat.le_refl _ | simp)))
        | (go_at_call 186
           refine (HA1.out _).mono ?_
           rintro e' w5 ⟨rfl, b5⟩
           replace b5 : Below wr.heap.size wr w5 := (by first | exact b4 | exact b4.drew : Below wr.heap.size wr _).trans (b5.mono (by first | exact b4.size | exact b4.drew.size)))
        | (go_at_call 219
           refine (HT1.out _ (HDK.out _ (by first | exact b5 | exact b5.drew))).mono ?_
           rintro e' w6 ⟨rfl, b6, o6⟩
           have H6 := Lib.hid (And.intro ((by first | exact b5 | exact b5.drew : Below wr.heap.size wr _).trans (b6.mono (by first | exact b5.size | exact b5.drew.size))) o6)
           clear b6 o6))
      all_goals
        obtain ⟨d0, d1, d2, d3, d4, d5, d6⟩ := HD.out _ H6.out.1
        have HL6 := Lib.hid (fun (u : World) (b : Below w6.heap.size w6 u) => row_liesK (own_belowK H6.out.2 b))
        go_wp2_with (first
          | (go_at_call 220
             refine (HT2.out _ _ (HL6.out _ (Below.refl _ _))).mono ?_
             rintro e' w7 ⟨v7, rfl, b7, o7⟩
             obtain ⟨a7, c7, rfl, l7, _⟩ := own_formK o7
             have H7 := Lib.hid (And.intro (H6.out.1.trans (b7.mono H6.out.1.size)) l7)
             clear b7 o7 l7)
          | (refine wpList_append_row rfl (.tmp 47) (.tmp 48) 25 rfl w3.heap.size 3 i0 _ 1 8 Tryz.underlying25 HI.out.1 HI.out.2.1 HI.out.2.2.1 HI.out.2.2.2 rfl (by omega) u7 (16 * k) (vals (joinP C k)) rfl (own_belowK HO.out.2 H7.out.1) a7 16 c7 (vals (pgCells C k)) rfl (by rw [vals, List.length_map, HJl.out]) H7.out.2 vals_one (by unfold maxLen; omega) (by omega) (Nat.le_trans HO.out.1.size H7.out.1.size) ?_
             intro v8 w8 ho8 hg8
             have H8 := Lib.hid (And.intro ((HO.out.1.trans (H7.out.1.mono HO.out.1.size)).grown hg8 (Nat.le_trans HO.out.1.size H7.out.1.size) (fun b hb => (HO.out.2.lt b hb).1)) ho8)
             clear ho8 hg8))
        refine ⟨⟨k + 1, by omega, by go_num, Lib.hid ⟨H8.out.1, ?_⟩⟩, by simp [intOf]; omega⟩
        rw [HJ1.out, show 16 * (k + 1) = 16 * k + 16 by omega, vals, List.map_append]
        exact H8.out.2
    · obtain rfl : k = P := by omega
      have hn : ¬ (k : Int) < (k : Int) := by omega
      go_wp2
      go_ret2
      exact ⟨_, rfl, R3.out.2.2.trans (HO.out.1.mono hs3), owns_base' hs3 HO.out.2⟩
end Go.Proofs.YtiiioeodanmieaaGreatDoor
-- StoreSuper
namespace Go.Proofs.YtiiioeodanmieaaGreatDoor
open Go.RowKit Sec
open Go.Proofs.YtiiioeodanmieaaGreatDoor.Bk

theorem read_at {B : Nat} {G : Nat → Prop} {u : World} {p : Nat} {D : Dsk} (h : AtK B G u p D) (hon : D.on = true) (k : Nat) (a : ByteArray) (s : D.now[k]? = some a) :
    Calls Tryz.prog 170 #[.pointer (some ⟨p, 0, none⟩), .int .i64 (k : Int)] u fun e w' => e = .returned (.tuple #[.string a, .int .i64 0]) ∧ w' = u := by
  have hk : k < D.now.length := (List.getElem?_eq_some_iff.1 s).1
  have hll := h.shape.1
  have hm : D.mayR (k : Int) = 0 := by
    have : D.has (k : Int) = true := by simp only [Dsk.has, decide_eq_true_eq]; omega
    rw [Dsk.mayR, hon, if_pos rfl, this, if_pos rfl]
  have ha : D.at_ (k : Int) = a := by
    rw [Dsk.at_, Int.toNat_natCast, List.getD_eq_getElem?_getD, s]; rfl
  have := Read_k h (k : Int)
  rw [hm, if_pos rfl, ha] at this
  exact this
theorem Row5.cells {w3 u : World} {g : Nat} {v0 v1 v2 v3 v4 : Value} (r : Row5 w3 g v0 v1 v2 v3 v4) (b : Below w3.heap.size w3 u) : u.cell? ⟨g, 0, none⟩ = some v0 ∧ u.cell? ⟨g, 1, none⟩ = some v1 ∧ u.cell? ⟨g, 2, none⟩ = some v2 ∧ u.cell? ⟨g, 3, none⟩ = some v3 ∧ u.cell? ⟨g, 4, none⟩ = some v4 :=
  have x := r.below b
  ⟨x.c0, x.c1, x.c2, x.c3, x.c4⟩

set_option maxRecDepth 100000 in
set_option maxHeartbeats 4000000 in
theorem superOf_is {B : Nat} {G : Nat → Prop} {w : World} {p : Nat} {D : Dsk} (h : AtK B G w p D) (hon : D.on = true) (a b : ByteArray) (s0 : D.now[0]? = some a) (s1 : D.now[1]? = some b)
    (fq fh fe gq gh ge nq nh ne : Int) (H L : Nat) (ia : crIs a = true) (ib : crIs b = true) (ca : cgetS a = ⟨fq, fh, fe, H, L⟩) (cb : cgetS b = ⟨gq, gh, ge, H, L⟩) (cn : newS a b = ⟨nq, nh, ne, H, L⟩)
    (p0 : fq % 2 = 0) (p1 : gq % 2 = 1) (bf : 0 ≤ fq ∧ fq < 4294967296) (bg : 0 ≤ gq ∧ gq < 4294967296) (dq : fq - gq = 1 ∨ gq - fq = 1) (hg : 8 ≤ H ∧ H ≤ 400 ∧ 4 ≤ L ∧ L ≤ 300) (hlen : 2 + 6 * pgs H + L ≤ D.now.length) (sz : a.size ≤ maxLen ∧ b.size ≤ maxLen) :
    Calls Tryz.prog 171 #[.pointer (some ⟨p, 0, none⟩)] w fun r w' => r = .returned (.tuple #[.agg #[.int .i64 nq, .int .i64 nh, .int .i64 ne, .int .i64 (H : Int), .int .i64 (L : Int)], .nilIface]) ∧ Below w.heap.size w w' := by
  have hll := h.shape.1
  have HR0 : Hid (∀ u, AtK B G u p D → Calls Tryz.prog 170 #[.pointer (some ⟨p, 0, none⟩), .int .i64 0] u fun e w' => e = .returned (.tuple #[.string a, .int .i64 0]) ∧ w' = u) := Lib.hid (fun u hu => read_at hu hon 0 a s0)
  have HR1 : Hid (∀ u, AtK B G u p D → Calls Tryz.prog 170 #[.pointer (some ⟨p, 0, none⟩), .int .i64 1] u fun e w' => e = .returned (.tuple #[.string b, .int .i64 0]) ∧ w' = u) := Lib.hid (fun u hu => read_at hu hon 1 b s1)
  have HGa : Hid (∀ u, Calls Tryz.prog 191 #[.string a] u fun r w' => r = .returned (.tuple #[.agg #[.int .i64 fq, .int .i64 fh, .int .i64 fe, .int .i64 (H : Int), .int .i64 (L : Int)], .bool true]) ∧ Below u.heap.size u w') := Lib.hid (fun u => by have := cget_is a sz.1 u; rw [ia, ca] at this; exact this)
  have HGb : Hid (∀ u, Calls Tryz.prog 191 #[.string b] u fun r w' => r = .returned (.tuple #[.agg #[.int .i64 gq, .int .i64 gh, .int .i64 ge, .int .i64 (H : Int), .int .i64 (L : Int)], .bool true]) ∧ Below u.heap.size u w') := Lib.hid (fun u => by have := cget_is b sz.2 u; rw [ib, cb] at this; exact this)
  have HN : Hid (∀ u, ∃ z : Value, Calls Tryz.prog 192 #[.string a, .string b] u fun r w' => r = .returned (.tuple #[.agg #[.int .i64 nq, .int .i64 nh, .int .i64 ne, .int .i64 (H : Int), .int .i64 (L : Int)], z, .bool true]) ∧ Below u.heap.size u w') := Lib.hid (fun u => ⟨_, by have := newer_is a b sz.1 sz.2 u; rw [ia, ib, cn] at this; exact this⟩)
  have HPf : Hid (∀ u, Calls Tryz.prog 189 #[.agg #[.int .i64 fq, .int .i64 fh, .int .i64 fe, .int .i64 (H : Int), .int .i64 (L : Int)]] u fun r w' => r = .returned (.int .i64 0) ∧ Below u.heap.size u w') := Lib.hid (fun u => by have := place_is ⟨fq, fh, fe, H, L⟩ u; rw [show (⟨fq, fh, fe, H, L⟩ : Sup).q = fq from rfl, sand1 fq bf.1 bf.2, p0] at this; exact this)
  have HPg : Hid (∀ u, Calls Tryz.prog 189 #[.agg #[.int .i64 gq, .int .i64 gh, .int .i64 ge, .int .i64 (H : Int), .int .i64 (L : Int)]] u fun r w' => r = .returned (.int .i64 1) ∧ Below u.heap.size u w') := Lib.hid (fun u => by have := place_is ⟨gq, gh, ge, H, L⟩ u; rw [show (⟨gq, gh, ge, H, L⟩ : Sup).q = gq from rfl, sand1 gq bg.1 bg.2, p1] at this; exact this)
  have HOf : Hid (∀ (x y z : Int) u, Calls Tryz.prog 118 #[.agg #[.int .i64 x, .int .i64 y, .int .i64 z, .int .i64 (H : Int), .int .i64 (L : Int)]] u fun r w' => r = .returned (.agg #[.int .i64 (H : Int), .int .i64 (L : Int)]) ∧ Below u.heap.size u w') := Lib.hid (fun x y z u => geoOf_is ⟨x, y, z, (H : Int), (L : Int)⟩ u)
  have HS : Hid (∀ u, Calls Tryz.prog 114 #[.agg #[.int .i64 (H : Int), .int .i64 (L : Int)]] u fun r w' => r = .returned (.int .i64 ((2 + 6 * pgs H + L : Nat) : Int)) ∧ Below u.heap.size u w') := Lib.hid (fun u => (gsectors_is H L u).mono fun r w' ⟨h1, h2⟩ => ⟨by rw [h1, ge_sectors hg], h2⟩)
  have HL : Hid (∀ u, AtK B G u p D → Calls Tryz.prog 150 #[.pointer (some ⟨p, 0, none⟩)] u fun e w' => e = .returned (.int .i64 (D.lasts.length : Int)) ∧ w' = u) := Lib.hid (fun u hu => Len_k hu)
  have hlt : ¬ ((D.lasts.length : Int) < ((2 + 6 * pgs H + L : Nat) : Int)) := by omega
  have HA := Lib.hid h
  clear h hon s0 s1 ia ib ca cb cn p0 p1 hg hlen hll sz
  generalize (D.lasts.length : Int) = m at *
  generalize ((2 + 6 * pgs H + L : Nat) : Int) = n at *
  have HB0 := Lib.hid ((Below.refl w.heap.size w).alloc (Nat.le_refl _) (.cells #[.int .i64 0, .int .i64 0, .int .i64 0, .int .i64 0, .int .i64 0] 152))
  go_enter Tryz.func171, Tryz.ntmps171
  go_wp2_with (first
    | (go_at_call 170
       with_reducible refine (HR0.out _ (HA.out.below HB0.out)).mono ?_
       rintro e' w' ⟨rfl, rfl⟩)
    | (go_at_call 170
       with_reducible refine (HR1.out _ (HA.out.below HB0.out)).mono ?_
       rintro e' w' ⟨rfl, rfl⟩)
    | (go_at_call 191
       with_reducible refine (HGa.out _).mono ?_
       rintro e' w1 ⟨rfl, b1⟩
       have H1 := Lib.hid (And.intro ((Row5.made w (.int .i64 0) (.int .i64 0) (.int .i64 0) (.int .i64 0) (.int .i64 0) 152).below b1) (HB0.out.trans (b1.mono HB0.out.size)))
       clear b1)
    | (go_at_call 191
       with_reducible refine (HGb.out _).mono ?_
       rintro e' w2 ⟨rfl, b2⟩
       have H2 := Lib.hid (And.intro ((Row5.made w1 _ _ _ _ _ _).below b2) (And.intro ((H1.out.1.alloc _).below b2) (H1.out.2.trans ((((Below.refl _ _).alloc (Nat.le_refl _) _).trans (b2.mono (by simp))).mono H1.out.2.size))))
       clear b2)
    | (go_at_call 192
       obtain ⟨z3, hz3⟩ := HN.out (w2.alloc (.cells #[.int .i64 gq, .int .i64 gh, .int .i64 ge, .int .i64 (H : Int), .int .i64 (L : Int)] 152))
       with_reducible refine hz3.mono ?_
       rintro e' w3 ⟨rfl, b3⟩
       clear hz3
       have H3 := Lib.hid (And.intro ((Row5.made w2 _ _ _ _ _ _).below b3) (And.intro ((H2.out.1.alloc _).below b3) (And.intro ((H2.out.2.1.alloc _).below b3) (H2.out.2.2.trans ((((Below.refl _ _).alloc (Nat.le_refl _) _).trans (b3.mono (by simp))).mono H2.out.2.2.size)))))
       have H4 := Lib.hid (And.intro (H3.out.2.1.alloc (.cells #[.int .i64 nq, .int .i64 nh, .int .i64 ne, .int .i64 (H : Int), .int .i64 (L : Int)] 152)) (And.intro (H3.out.1.alloc (.cells #[.int .i64 nq, .int .i64 nh, .int .i64 ne, .int .i64 (H : Int), .int .i64 (L : Int)] 152)) (And.intro (Row5.made w3 (.int .i64 nq) (.int .i64 nh) (.int .i64 ne) (.int .i64 (H : Int)) (.int .i64 (L : Int)) 152) (And.intro (H3.out.2.2.1.alloc (.cells #[.int .i64 nq, .int .i64 nh, .int .i64 ne, .int .i64 (H : Int), .int .i64 (L : Int)] 152)) (H3.out.2.2.2.alloc H3.out.2.2.2.size (.cells #[.int .i64 nq, .int .i64 nh, .int .i64 ne, .int .i64 (H : Int), .int .i64 (L : Int)] 152))))))
       obtain ⟨f0, f1, f2, f3, f4⟩ := H4.out.1.cells (Below.refl _ _)
       clear b3)
    | (go_at_call 189
       with_reducible refine (HPf.out _).mono ?_
       rintro e' w4 ⟨rfl, b4⟩
       obtain ⟨g0, g1, g2, g3, g4⟩ := H4.out.2.1.cells b4
       have H5 := Lib.hid b4
       clear b4)
    | (go_at_call 189
       with_reducible refine (HPg.out _).mono ?_
       rintro e' w5 ⟨rfl, b5⟩
       have H6 := Lib.hid (H5.out.trans (b5.mono H5.out.size))
       clear b5))
  generalize (w3.alloc (.cells #[.int .i64 nq, .int .i64 nh, .int .i64 ne, .int .i64 (H : Int), .int .i64 (L : Int)] 152)) = W3 at *
  clear f0 f1 f2 f3 f4 g0 g1 g2 g3 g4
  have HC : Hid (∀ u, Below W3.heap.size W3 u → (u.cell? ⟨w1.heap.size, 0, none⟩ = some (.int .i64 fq) ∧ u.cell? ⟨w1.heap.size, 1, none⟩ = some (.int .i64 fh) ∧ u.cell? ⟨w1.heap.size, 2, none⟩ = some (.int .i64 fe) ∧ u.cell? ⟨w1.heap.size, 3, none⟩ = some (.int .i64 (H : Int)) ∧ u.cell? ⟨w1.heap.size, 4, none⟩ = some (.int .i64 (L : Int)) ∧ u.cell? ⟨w2.heap.size, 0, none⟩ = some (.int .i64 gq) ∧ u.cell? ⟨w2.heap.size, 1, none⟩ = some (.int .i64 gh) ∧ u.cell? ⟨w2.heap.size, 2, none⟩ = some (.int .i64 ge) ∧ u.cell? ⟨w2.heap.size, 3, none⟩ = some (.int .i64 (H : Int)) ∧ u.cell? ⟨w2.heap.size, 4, none⟩ = some (.int .i64 (L : Int)))) := Lib.hid (fun u b => by
    obtain ⟨f0, f1, f2, f3, f4⟩ := H4.out.1.cells b
    obtain ⟨g0, g1, g2, g3, g4⟩ := H4.out.2.1.cells b
    exact ⟨f0, f1, f2, f3, f4, g0, g1, g2, g3, g4⟩)
  have HCn : Hid (∀ u, Below W3.heap.size W3 u → (u.cell? ⟨w3.heap.size, 0, none⟩ = some (.int .i64 nq) ∧ u.cell? ⟨w3.heap.size, 1, none⟩ = some (.int .i64 nh) ∧ u.cell? ⟨w3.heap.size, 2, none⟩ = some (.int .i64 ne) ∧ u.cell? ⟨w3.heap.size, 3, none⟩ = some (.int .i64 (H : Int)) ∧ u.cell? ⟨w3.heap.size, 4, none⟩ = some (.int .i64 (L : Int)))) := Lib.hid (fun u b => H4.out.2.2.1.cells b)
  obtain ⟨f0, f1, f2, f3, f4, g0, g1, g2, g3, g4⟩ := HC.out _ H6.out
  have M1 : Hid True := Lib.hid trivial
  go_region_held3 (fun u => u.cell? ⟨w1.heap.size, 0, none⟩ = some (.int .i64 fq) ∧ u.cell? ⟨w1.heap.size, 1, none⟩ = some (.int .i64 fh) ∧ u.cell? ⟨w1.heap.size, 2, none⟩ = some (.int .i64 fe) ∧ u.cell? ⟨w1.heap.size, 3, none⟩ = some (.int .i64 (H : Int)) ∧ u.cell? ⟨w1.heap.size, 4, none⟩ = some (.int .i64 (L : Int)) ∧ u.cell? ⟨w2.heap.size, 0, none⟩ = some (.int .i64 gq) ∧ u.cell? ⟨w2.heap.size, 1, none⟩ = some (.int .i64 gh) ∧ u.cell? ⟨w2.heap.size, 2, none⟩ = some (.int .i64 ge) ∧ u.cell? ⟨w2.heap.size, 3, none⟩ = some (.int .i64 (H : Int)) ∧ u.cell? ⟨w2.heap.size, 4, none⟩ = some (.int .i64 (L : Int))) (first
      | assumption
      | exact HC.out _ H6.out
      | exact HC.out _ H6.out.drew
      | exact HC.out _ b6
      | exact HC.out _ b7) (first
    | (go_at_call 118
       have mm := M1.out
       refine (HOf.out _ _ _ _).mono ?_
       rintro e' w6 ⟨rfl, b6⟩
       replace b6 : Below W3.heap.size W3 w6 := (by first | exact H6.out | exact H6.out.drew : Below W3.heap.size W3 _).trans (b6.mono (by first | exact H6.out.size | exact H6.out.drew.size))
       clear M1 mm)
    | (go_at_call 118
       refine (HOf.out _ _ _ _).mono ?_
       rintro e' w7 ⟨rfl, b7⟩
       replace b7 : Below W3.heap.size W3 w7 := (by first | exact b6 | exact b6.drew : Below W3.heap.size W3 _).trans (b7.mono (by first | exact b6.size | exact b6.drew.size))
       have H7 := Lib.hid b7))
  clear f0 f1 f2 f3 f4 g0 g1 g2 g3 g4
  obtain ⟨f0, f1, f2, f3, f4, g0, g1, g2, g3, g4⟩ := HC.out _ H7.out
  obtain ⟨n0, n1, n2, n3, n4⟩ := HCn.out _ H7.out
  have hd2 : (fq - gq = 1 ∧ gq - fq = -1) ∨ (fq - gq = -1 ∧ gq - fq = 1) := by omega
  clear dq bf bg
  rcases hd2 with ⟨dq1, dq2⟩ | ⟨dq1, dq2⟩
  all_goals
    go_wp2
    clear f0 f1 f2 f3 f4 g0 g1 g2 g3 g4
    go_region_held3 (fun u => u.cell? ⟨w3.heap.size, 0, none⟩ = some (.int .i64 nq) ∧ u.cell? ⟨w3.heap.size, 1, none⟩ = some (.int .i64 nh) ∧ u.cell? ⟨w3.heap.size, 2, none⟩ = some (.int .i64 ne) ∧ u.cell? ⟨w3.heap.size, 3, none⟩ = some (.int .i64 (H : Int)) ∧ u.cell? ⟨w3.heap.size, 4, none⟩ = some (.int .i64 (L : Int))) (first
        | assumption
        | exact HCn.out _ H7.out
        | exact HCn.out _ H7.out.drew
        | exact HCn.out _ b8
        | exact HCn.out _ b9) (first
      | (go_at_call 150
         refine (HL.out _ (HA.out.below (H4.out.2.2.2.2.trans ((by first | exact H7.out | exact H7.out.drew : Below W3.heap.size W3 _).mono H4.out.2.2.2.2.size)))).mono ?_
         rintro e' w' ⟨rfl, rfl⟩)
      | (go_at_call 118
         refine (HOf.out _ _ _ _).mono ?_
         rintro e' w8 ⟨rfl, b8⟩
         replace b8 : Below W3.heap.size W3 w8 := (by first | exact H7.out | exact H7.out.drew : Below W3.heap.size W3 _).trans (b8.mono (by first | exact H7.out.size | exact H7.out.drew.size)))
      | (go_at_call 114
         refine (HS.out _).mono ?_
         rintro e' w9 ⟨rfl, b9⟩
         replace b9 : Below W3.heap.size W3 w9 := (by first | exact b8 | exact b8.drew : Below W3.heap.size W3 _).trans (b9.mono (by first | exact b8.size | exact b8.drew.size))
         have H9 := Lib.hid b9))
    all_goals
      obtain ⟨m0, m1, m2, m3, m4⟩ := HCn.out _ H9.out
      have RZ := Lib.hid (H4.out.2.2.2.1.below H9.out)
      obtain ⟨_, z0, z1, z2, z3', z4, y0, y1, y2, y3, y4⟩ := RZ.out
      have HF := Lib.hid (H4.out.2.2.2.2.trans (H9.out.mono H4.out.2.2.2.2.size))
      clear n0 n1 n2 n3 n4
      go_wp2
      refine bodyPost_ret (results_cell2 (x := .agg #[.int .i64 nq, .int .i64 nh, .int .i64 ne, .int .i64 (H : Int), .int .i64 (L : Int)]) (y := .nilIface) rfl rfl (RZ.out.set5 _ _ _ _ _).load rfl) rfl ?_
      exact ⟨rfl, Row5.kept HF.out⟩
end Go.Proofs.YtiiioeodanmieaaGreatDoor
-- StoreOf
namespace Go.Proofs.YtiiioeodanmieaaGreatDoor
open Go.RowKit Sec
open Go.Proofs.YtiiioeodanmieaaGreatDoor.Bk

theorem owns_setC {w : World} {base : Nat} {e : TypeId} {k n : Nat} {v : Value} {xs : List Value} (h : w.ownsRow base e k v n xs) {a : Addr} (x : Value) (hne : v.ownBlock ≠ some a.block) : (w.setCell a x).ownsRow base e k v n xs :=
  owns_same h (fun g hg => heap_setCell_ne _ _ _ _ (fun q => hne (by rw [hg, q])))
theorem applyL_next (C : List Int) (l : List Chg) (k : Nat) (hk : k < l.length) : applyL C (l.take (k + 1)) = putC (applyL C (l.take k)) l[k] := by
  rw [List.take_succ_eq_append_getElem hk, applyL_one]

theorem own_len {w : World} {base : Nat} {e : TypeId} {k n : Nat} {v : Value} {xs : List Value} (h : w.ownsRow base e k v n xs) : n ≤ maxLen := by
  rcases h.2 with ⟨_, q⟩ | ⟨g, cap, cur, _, _, _, h1, h2, _⟩
  · omega
  · exact Nat.le_trans h1 h2

set_option maxRecDepth 100000 in
set_option maxHeartbeats 4000000 in
theorem storeOf_is {B : Nat} {G : Nat → Prop} {w : World} {p : Nat} {D : Dsk} (h : AtK B G w p D) (hon : D.on = true) (q hd nx : Nat) (e : Int) (H L : Nat) (hg : 8 ≤ H ∧ H ≤ 400 ∧ 4 ≤ L ∧ L ≤ 300) (hq : q < 4294967296) (hn : nx < 900000000) (e0 : 0 ≤ e) (e1 : e < 900000000)
    (C : List Int) (hC : C.length = 16 + 2 * H) (hpg : ∀ no, no < pgs H → PageIn D.now q no (pgCells C no)) (all : List Chg) (hl : LogIs D (2 + 6 * pgs H) L hd nx e all) (hf : FineL (16 + 2 * H) all) :
    Calls Tryz.prog 172 #[.pointer (some ⟨p, 0, none⟩), .agg #[.int .i64 (q : Int), .int .i64 (hd : Int), .int .i64 e, .int .i64 (H : Int), .int .i64 (L : Int)]] w fun r w' => ∃ s lq vC vW, r = .returned (.tuple #[.pointer (some ⟨s, 0, none⟩), .nilIface]) ∧ StAt B G w' s p lq D ((2 + 6 * pgs H : Nat) : Int) L hd nx e (crS q hd e H L) (joinP (applyL C all) (pgs H)) (joinP (applyL C all) (pgs H)) false vC vW ∧ Below w.heap.size w w' := by
  have hp := (pgs_le hg.2.1)
  have n1 := hl.n1
  have nord := hl.ord
  have ncap := hl.cap
  have nlen := hl.len
  have hll := h.shape.1
  have hl3 := h.shape.2.1
  have HG : Hid (∀ u, Calls Tryz.prog 118 #[.agg #[.int .i64 (q : Int), .int .i64 (hd : Int), .int .i64 e, .int .i64 (H : Int), .int .i64 (L : Int)]] u fun r w' => r = .returned (.agg #[.int .i64 (H : Int), .int .i64 (L : Int)]) ∧ Below u.heap.size u w') := Lib.hid (fun u => geoOf_is ⟨(q : Int), hd, e, (H : Int), (L : Int)⟩ u)
  have HCe : Hid (∀ u, AtK B G u p D → Calls Tryz.prog 193 #[.pointer (some ⟨p, 0, none⟩), .agg #[.int .i64 (q : Int), .int .i64 (hd : Int), .int .i64 e, .int .i64 (H : Int), .int .i64 (L : Int)]] u fun r w' => ∃ v, r = .returned (.tuple #[v, .nilIface]) ∧ Below u.heap.size u w' ∧ w'.ownsRow u.heap.size 3 1 v (16 * pgs H) (vals (joinP C (pgs H)))) := Lib.hid (fun u hu => cellsOf_is hu hon q hd e H L hg hq C hpg)
  have HLo : Hid (∀ u, Calls Tryz.prog 149 #[.agg #[.int .i64 (H : Int), .int .i64 (L : Int)]] u fun r w' => r = .returned (.int .i64 ((2 + 6 * pgs H : Nat) : Int)) ∧ Below u.heap.size u w') := Lib.hid (fun u => (glog_is H L u).mono fun r w' ⟨h1, h2⟩ => ⟨by rw [h1, ge_log hg], h2⟩)
  have HGc : Hid (∀ u, Calls Tryz.prog 122 #[.agg #[.int .i64 (H : Int), .int .i64 (L : Int)]] u fun r w' => r = .returned (.int .i64 ((16 + 2 * H : Nat) : Int)) ∧ Below u.heap.size u w') := Lib.hid (fun u => (gcells_is H L u).mono fun r w' ⟨h1, h2⟩ => ⟨by rw [h1, ge_cells hg], h2⟩)
  have HSc : Hid (∀ u, AtK B G u p D → Calls Tryz.prog 194 #[.pointer (some ⟨p, 0, none⟩), .int .i64 ((2 + 6 * pgs H : Nat) : Int), .int .i64 (L : Int), .int .i64 (hd : Int), .int .i64 e] u fun r w' => ∃ v, r = .returned (.tuple #[v, .int .i64 (nx : Int), .int .i64 0]) ∧ Below u.heap.size u w' ∧ w'.ownsRow u.heap.size 98 2 v all.length (flat Chg.cells all)) := Lib.hid (fun u hu =>
    (scan_is hu hon ((2 + 6 * pgs H : Nat) : Int) (L : Int) (hd : Int) e (decide_eq_true ⟨by omega, by omega, by omega, by omega, by omega, by omega, e0, by omega, by omega⟩) L rfl (by omega) all (nx - hd) hl.scan).mono fun r w' ⟨v, he, hb, ho⟩ => ⟨v, by rw [he, show wrap64 ((hd : Int) + ((nx - hd : Nat) : Int)) = (nx : Int) by unfold wrap64; omega], hb, ho⟩)
  have HNe : Hid (∀ (G' : Nat → Prop) u, AtK B G' u p D → Calls Tryz.prog 195 #[.pointer (some ⟨p, 0, none⟩), .int .i64 ((2 + 6 * pgs H : Nat) : Int), .int .i64 (L : Int), .int .i64 (hd : Int), .int .i64 (nx : Int), .int .i64 e] u fun r w' => ∃ lq, r = .returned (.pointer (some ⟨lq, 0, none⟩)) ∧ LogAt B G' w' lq p D ((2 + 6 * pgs H : Nat) : Int) L hd nx e ∧ Below u.heap.size u w') := Lib.hid (fun G' u hu => lnew_yes hu _ _ _ _ _ (decide_eq_true ⟨by omega, by omega, by omega, by omega, by omega, by omega, e0, by omega, by omega⟩))
  have HCl : Hid (∀ (a : Option Addr) (c : Nat) (X : List Int) u, X.length = 16 * pgs H → LiesAt u a (vals X) → Calls Tryz.prog 121 #[.slice a (16 * pgs H) c] u fun r w' => ∃ g c', r = .returned (.slice (some ⟨g, 0, none⟩) (16 * pgs H) c') ∧ Below u.heap.size u w' ∧ w'.ownsRow u.heap.size 3 1 (.slice (some ⟨g, 0, none⟩) (16 * pgs H) c') (16 * pgs H) (vals X)) := Lib.hid (fun a c X u hX hu =>
    (clone_int a (16 * pgs H) c (vals X) u (by omega) (by rw [vals, List.length_map, hX]; omega) hu vals_one (fun ha => by
      obtain ⟨b, hb, _⟩ := hu 0 (.int .i64 (X.getD 0 0)) (by simp [vals, show 0 < X.length by unfold pgs at *; omega])
      rw [ha] at hb; cases hb)).mono fun r w' ⟨a', c', he, hb, _, ho⟩ => by
      rcases ho with ⟨_, hz, _⟩ | ⟨g, rfl, _, ho⟩
      · exfalso; unfold pgs at *; omega
      · exact ⟨g, c', he, hb, ho⟩)
  have HA := Lib.hid h
  have HF : Hid (∀ x ∈ all, (0 ≤ x.c ∧ x.c < ((16 + 2 * H : Nat) : Int))) := Lib.hid (fun x hx => (hf x hx).1)
  have HJ : Hid (applyL (joinP C (pgs H)) all = joinP (applyL C all) (pgs H)) := Lib.hid (applyL_join (by omega) (fun x hx => by have := (hf x hx).1; rw [hC]; exact this))
  have HJl : Hid (∀ k, (applyL (joinP C (pgs H)) (all.take k)).length = 16 * pgs H) := Lib.hid (fun k => by rw [applyL_len, joinP_len])
  have hcl : 16 + 2 * H ≤ 16 * pgs H := hp.2
  have hcp : 16 * pgs H ≤ 816 := by omega
  have hN1 : 1 ≤ 16 * pgs H := by omega
  have HB := Lib.hid h.le
  have HS16 : Hid ((joinP (applyL C all) (pgs H)).length = 16 * pgs H) := Lib.hid (joinP_len _ _)
  clear h hon hpg hl hf hC hq
  generalize joinP (applyL C all) (pgs H) = XX at *
  generalize joinP C (pgs H) = X0 at *
  generalize 2 + 6 * pgs H = fr at *
  generalize 16 * pgs H = N at *
  generalize 16 + 2 * H = cN at *
  have hcNi : (cN : Int) ≤ (N : Int) := by omega
  go_enter Tryz.func172, Tryz.ntmps172
  go_wp2_with (first
    | (go_at_call 118
       refine (HG.out _).mono ?_
       rintro e' w1 ⟨rfl, b1⟩
       have R1 := Lib.hid (Row5.laid b1)
       have R2 := Lib.hid (And.intro (R1.out.1.alloc (.cells #[.int .i64 (H : Int), .int .i64 (L : Int)] 23)) (And.intro (GBox.made w1 (H : Int) (L : Int) 23) (R1.out.2.alloc R1.out.2.size (.cells #[.int .i64 (H : Int), .int .i64 (L : Int)] 23))))
       obtain ⟨r0, r1, r2, r3, r4⟩ := R2.out.1.cells (Below.refl _ _)
       clear b1)
    | (go_at_call 193
       refine (HCe.out _ (HA.out.below R2.out.2.2)).mono ?_
       rintro e' w3 ⟨v3, rfl, b3, o3⟩
       have R3 := Lib.hid (And.intro b3 o3)
       clear b3 o3))
  generalize w1.alloc (.cells #[.int .i64 (H : Int), .int .i64 (L : Int)] 23) = W2 at *
  generalize w1.heap.size = b1 at *
  clear r0 r1 r2 r3 r4
  have HC := Lib.hid (seven R2.out.1.lt R2.out.2.1.lt R2.out.1.c0 R2.out.1.c1 R2.out.1.c2 R2.out.1.c3 R2.out.1.c4 R2.out.2.1.c0 R2.out.2.1.c1)
  have hs2 := R2.out.2.2.size
  obtain ⟨c0, c1, c2, c3, c4, c5, c6⟩ := HC.out _ R3.out.1
  go_region_held3 (fun u => u.cell? ⟨w.heap.size, 0, none⟩ = some (.int .i64 (q : Int)) ∧ u.cell? ⟨w.heap.size, 1, none⟩ = some (.int .i64 (hd : Int)) ∧ u.cell? ⟨w.heap.size, 2, none⟩ = some (.int .i64 e) ∧ u.cell? ⟨w.heap.size, 3, none⟩ = some (.int .i64 (H : Int)) ∧ u.cell? ⟨w.heap.size, 4, none⟩ = some (.int .i64 (L : Int)) ∧ u.cell? ⟨b1, 0, none⟩ = some (.int .i64 (H : Int)) ∧ u.cell? ⟨b1, 1, none⟩ = some (.int .i64 (L : Int))) (first
      | assumption
      | exact HC.out _ R3.out.1
      | exact HC.out _ R3.out.1.drew
      | exact HC.out _ b4
      | exact HC.out _ H5.out.1) (first
    | (go_at_call 149
       refine (HLo.out _).mono ?_
       rintro e' w4 ⟨rfl, b4⟩
       replace b4 : Below w3.heap.size w3 w4 := (by first | exact Below.refl _ _ | exact (Below.refl _ _).drew : Below w3.heap.size w3 _).trans (b4.mono (by first | exact Nat.le_refl _ | simp))
       have H4 := Lib.hid b4
       replace b4 := R3.out.1.trans (b4.mono R3.out.1.size))
    | (go_at_call 194
       refine (HSc.out _ (HA.out.below (R2.out.2.2.trans ((by first | exact b4 | exact b4.drew : Below W2.heap.size W2 _).mono hs2)))).mono ?_
       rintro e' w5 ⟨v5, rfl, b5, o5⟩
       obtain ⟨a5, k5, rfl, l5, _⟩ := own_formK o5
       have b35 : Below w3.heap.size w3 w5 := (by first | exact H4.out | exact H4.out.drew : Below w3.heap.size w3 _).trans (b5.mono (by first | exact H4.out.size | exact H4.out.drew.size))
       have H5 := Lib.hid (And.intro (R3.out.1.trans (b35.mono R3.out.1.size)) (And.intro (owns_base' (Nat.le_trans R3.out.1.size (by first | exact H4.out.size | exact H4.out.drew.size)) o5) (own_belowK R3.out.2 b35)))
       clear b5 o5 l5 b35))
  have HO := Lib.hid H5.out
  obtain ⟨gx, cx, rfl, hcx, hgx0, hgx⟩ := own_blkK HO.out.2.2 (by omega)
  have hal : all.length ≤ 9223372036854775807 := by have := own_len HO.out.2.1; unfold maxLen at this; omega
  obtain ⟨d0, d1, d2, d3, d4, d5, d6⟩ := HC.out _ HO.out.1
  clear c0 c1 c2 c3 c4 c5 c6
  go_wp2
  go_loopw [50] (fun i wr => ∃ k : Nat, k ≤ all.length ∧ i = .int .i64 (k : Int) ∧ Hid (Below W2.heap.size W2 wr ∧ wr.ownsRow W2.heap.size 98 2 (.slice a5 all.length k5) all.length (flat Chg.cells all) ∧ wr.ownsRow W2.heap.size 3 1 (.slice (some ⟨gx, 0, none⟩) N cx) N (vals (applyL X0 (all.take k))))) (fun i _ => all.length - (intOf i).toNat)
  case atStart => exact ⟨0, Nat.zero_le _, rfl, Lib.hid HO.out⟩
  case round =>
    obtain ⟨k, hk, rfl, HR⟩ := hrel
    obtain ⟨c0, c1, c2, c3, c4, c5, c6⟩ := HC.out _ HR.out.1
    by_cases hlt : k < all.length
    · obtain ⟨g1, o1, rfl, hg1, e1⟩ := (row_liesK HR.out.2.1).elem Chg.len (by omega) (List.getElem?_eq_getElem hlt)
      have e1_0 := e1 0 _ rfl
      have e1_1 := e1 1 _ rfl
      rw [Nat.add_zero] at e1_0
      clear e1
      obtain ⟨x0, x1⟩ := HF.out _ (List.getElem_mem hlt)
      have HNx := Lib.hid (applyL_next X0 all k hlt)
      have hXl := HJl.out k
      generalize all[k] = x at *
      obtain ⟨xc, xv⟩ := x
      simp only at e1_0 e1_1 x0 x1
      obtain ⟨m, rfl⟩ := Int.eq_ofNat_of_zero_le x0
      have hmN : m < N := by omega
      have hmi : (m : Int) < (N : Int) := by omega
      have HP : Hid (applyL X0 (all.take (k + 1)) = (applyL X0 (all.take k)).set m xv) := Lib.hid (by
        rw [HNx.out, putC, if_pos ⟨x0, by rw [hXl]; exact hmi⟩]
        rfl)
      obtain ⟨k1, f1⟩ := owns_cell HR.out.2.2 (k := m) (x := .int .i64 ((applyL X0 (all.take k)).getD m 0)) (by simp [vals, hXl, hmN])
      generalize (applyL X0 (all.take k)).getD m 0 = y at *
      have hi1 : (k : Int) < (all.length : Int) := by omega
      have BA := Lib.hid ((Below.refl wr.heap.size wr).alloc (Nat.le_refl _) (.cells #[.int .i64 (m : Int), .int .i64 xv] 98))
      have z0 : (wr.alloc (.cells #[.int .i64 (m : Int), .int .i64 xv] 98)).cell? ⟨wr.heap.size, 0, none⟩ = some (.int .i64 (m : Int)) := by simp
      have z1 : (wr.alloc (.cells #[.int .i64 (m : Int), .int .i64 xv] 98)).cell? ⟨wr.heap.size, 1, none⟩ = some (.int .i64 xv) := by simp
      have HQ : Hid (∀ u, Below (wr.alloc (.cells #[.int .i64 (m : Int), .int .i64 xv] 98)).heap.size (wr.alloc (.cells #[.int .i64 (m : Int), .int .i64 xv] 98)) u → (u.cell? ⟨wr.heap.size, 0, none⟩ = some (.int .i64 (m : Int)) ∧ u.cell? ⟨wr.heap.size, 1, none⟩ = some (.int .i64 xv) ∧ u.cell? ⟨b1, 0, none⟩ = some (.int .i64 (H : Int)) ∧ u.cell? ⟨b1, 1, none⟩ = some (.int .i64 (L : Int)))) := Lib.hid (fun u b => by
        obtain ⟨_, _, _, _, _, h5, h6⟩ := HC.out u (HR.out.1.trans ((BA.out.trans (b.mono BA.out.size)).mono HR.out.1.size))
        exact ⟨(b.cell (cell_lt z0)).trans z0, (b.cell (cell_lt z1)).trans z1, h5, h6⟩)
      clear z0 z1 hXl HNx
      go_wp2
      generalize wr.alloc (.cells #[.int .i64 (m : Int), .int .i64 xv] 98) = wa at *
      obtain ⟨y0, y1, y2, y3⟩ := HQ.out _ (Below.refl _ _)
      go_region_held3 (fun u => u.cell? ⟨wr.heap.size, 0, none⟩ = some (.int .i64 (m : Int)) ∧ u.cell? ⟨wr.heap.size, 1, none⟩ = some (.int .i64 xv) ∧ u.cell? ⟨b1, 0, none⟩ = some (.int .i64 (H : Int)) ∧ u.cell? ⟨b1, 1, none⟩ = some (.int .i64 (L : Int))) (first
          | assumption
          | exact HQ.out _ (Below.refl _ _)
          | exact HQ.out _ (Below.refl _ _).drew
          | exact HQ.out _ H7.out) (first
        | (go_at_call 122
           refine (HGc.out _).mono ?_
           rintro e' w7 ⟨rfl, b7⟩
           have H7 := Lib.hid ((by first | exact Below.refl _ _ | exact (Below.refl _ _).drew : Below wa.heap.size wa _).trans (b7.mono (by first | exact Nat.le_refl _ | simp)))
           clear b7))
      all_goals
        clear y0 y1 y2 y3
        obtain ⟨y0, y1, y2, y3⟩ := HQ.out _ H7.out
        have B7 := Lib.hid (BA.out.trans (H7.out.mono BA.out.size))
        have hgw : gx < wr.heap.size := (HR.out.2.2.lt gx rfl).2
        have q1 : w7.cell? ⟨gx, m, none⟩ = some (.int .i64 y) := (B7.out.cell (p := ⟨gx, m, none⟩) hgw).trans k1
        have q2 : w7.frozen? ⟨gx, m, none⟩ = false := (B7.out.frozen (p := ⟨gx, m, none⟩) hgw).trans f1
        go_wp2
        refine ⟨⟨k + 1, by omega, by go_num, Lib.hid ⟨(HR.out.1.trans (B7.out.mono HR.out.1.size)).setCell (p := ⟨gx, m, none⟩) hgx0 _, ?_, ?_⟩⟩, by simp [intOf]; omega⟩
        · exact owns_setC (own_belowK HR.out.2.1 B7.out) _ (fun q => owns_off HR.out.2.1 HR.out.2.2 (by decide) _ q rfl)
        · rw [HP.out, vals, List.map_set]
          exact owns_set (own_belowK HR.out.2.2 B7.out) m _
    · obtain rfl : k = all.length := by omega
      have hn' : ¬ (all.length : Int) < (all.length : Int) := by omega
      rw [List.take_length, HJ.out] at HR
      have HD := Lib.hid (fun u (b : Below wr.heap.size wr u) => HC.out u (HR.out.1.trans (b.mono HR.out.1.size)))
      have BW := Lib.hid (R2.out.2.2.trans (HR.out.1.mono hs2))
      have hgw : gx < wr.heap.size := (HR.out.2.2.lt gx rfl).2
      have HG' := Lib.hid (HA.out.more BW.out)
      go_wp2
      go_region_held3 (fun u => u.cell? ⟨w.heap.size, 0, none⟩ = some (.int .i64 (q : Int)) ∧ u.cell? ⟨w.heap.size, 1, none⟩ = some (.int .i64 (hd : Int)) ∧ u.cell? ⟨w.heap.size, 2, none⟩ = some (.int .i64 e) ∧ u.cell? ⟨w.heap.size, 3, none⟩ = some (.int .i64 (H : Int)) ∧ u.cell? ⟨w.heap.size, 4, none⟩ = some (.int .i64 (L : Int)) ∧ u.cell? ⟨b1, 0, none⟩ = some (.int .i64 (H : Int)) ∧ u.cell? ⟨b1, 1, none⟩ = some (.int .i64 (L : Int))) (first
          | assumption
          | exact HD.out _ (Below.refl _ _)
          | exact HD.out _ (Below.refl _ _).drew
          | exact HD.out _ b8
          | exact HD.out _ H9.out.1) (first
        | (go_at_call 149
           refine (HLo.out _).mono ?_
           rintro e' w8 ⟨rfl, b8⟩
           replace b8 : Below wr.heap.size wr w8 := (by first | exact Below.refl _ _ | exact (Below.refl _ _).drew : Below wr.heap.size wr _).trans (b8.mono (by first | exact Nat.le_refl _ | simp)))
        | (go_at_call 195
           refine (HNe.out _ _ (HG'.out.below (by first | exact b8 | exact b8.drew))).mono ?_
           rintro e' w9 ⟨lq, rfl, A9, b9⟩
           have H9 := Lib.hid (And.intro ((by first | exact b8 | exact b8.drew : Below wr.heap.size wr _).trans (b9.mono (by first | exact b8.size | exact b8.drew.size))) A9)
           clear b9 A9))
      all_goals
        clear c0 c1 c2 c3 c4 c5 c6
        obtain ⟨c0, c1, c2, c3, c4, c5, c6⟩ := HD.out _ H9.out.1
        have HE := Lib.hid (fun u (b : Below w9.heap.size w9 u) => HD.out u (H9.out.1.trans (b.mono H9.out.1.size)))
        have HLX := Lib.hid (fun u (b : Below w9.heap.size w9 u) => own_cells HR.out.2.2 (H9.out.1.trans (b.mono H9.out.1.size)))
        go_wp2
        go_region_held3 (fun u => u.cell? ⟨w.heap.size, 0, none⟩ = some (.int .i64 (q : Int)) ∧ u.cell? ⟨w.heap.size, 1, none⟩ = some (.int .i64 (hd : Int)) ∧ u.cell? ⟨w.heap.size, 2, none⟩ = some (.int .i64 e) ∧ u.cell? ⟨w.heap.size, 3, none⟩ = some (.int .i64 (H : Int)) ∧ u.cell? ⟨w.heap.size, 4, none⟩ = some (.int .i64 (L : Int)) ∧ u.cell? ⟨b1, 0, none⟩ = some (.int .i64 (H : Int)) ∧ u.cell? ⟨b1, 1, none⟩ = some (.int .i64 (L : Int))) (first
            | assumption
            | exact HE.out _ (Below.refl _ _)
            | exact HE.out _ (Below.refl _ _).drew
            | exact HE.out _ H10.out.1
            | exact HE.out _ (H10.out.1.alloc H10.out.1.size _)) (first
          | (go_at_call 121
             refine (HCl.out (some ⟨gx, 0, none⟩) cx XX _ HS16.out (HLX.out _ (by first | exact Below.refl _ _ | exact (Below.refl _ _).drew))).mono ?_
             rintro e' w10 ⟨gw, cw, rfl, b10, o10⟩
             have H10 := Lib.hid (And.intro ((by first | exact Below.refl _ _ | exact (Below.refl _ _).drew : Below w9.heap.size w9 _).trans (b10.mono (by first | exact Nat.le_refl _ | simp))) (owns_base' (show w9.heap.size ≤ _ from by first | exact Nat.le_refl _ | simp) o10))
             clear b10 o10))
        all_goals
          go_wp2
          go_ret2
          have b9a : Below w9.heap.size w9 (w10.alloc (.cells #[.pointer (some ⟨p, 0, none⟩), .int .i64 (q : Int), .int .i64 (hd : Int), .int .i64 e, .int .i64 (H : Int), .int .i64 (L : Int), .pointer (some ⟨lq, 0, none⟩), .slice (some ⟨gx, 0, none⟩) N cx, .slice (some ⟨gw, 0, none⟩) N cw, .bool false] 155)) := H10.out.1.alloc H10.out.1.size _
          have z1 := BW.out.size
          have z2 := H9.out.1.size
          have z3 := H10.out.1.size
          have z4 := H10.out.2.lt gw rfl
          have hB := HB.out
          refine ⟨w10.heap.size, lq, .slice (some ⟨gx, 0, none⟩) N cx, .slice (some ⟨gw, 0, none⟩) N cw, rfl, ⟨⟨by omega, heap_alloc_last _ _, ?_, ?_, ?_, rfl, by rw [HS16.out]; omega⟩, (H9.out.2.more b9a).mono ?_, ?_⟩, BW.out.trans ((H9.out.1.trans (b9a.mono H9.out.1.size)).mono z1)⟩
          · rw [HS16.out]
            exact owns_base' (Nat.le_trans hB hs2) (own_belowK HR.out.2.2 (H9.out.1.trans (b9a.mono H9.out.1.size)))
          · rw [HS16.out]
            exact owns_base' (by omega) (H10.out.2.alloc _)
          · intro g r1 r2
            simp only [Value.ownBlock, Option.some.injEq] at r1 r2
            omega
          · intro b r
            rcases r with r | r | r | r
            · exact .inl (.inl r)
            · exact .inr (by subst r; simp; omega)
            · simp only [Value.ownBlock, Option.some.injEq] at r
              exact .inl (.inr (by omega))
            · simp only [Value.ownBlock, Option.some.injEq] at r
              exact .inr (by subst r; simp; omega)
          · intro b r g
            have := HA.out.lt b g
            rcases r with r | r | r
            · omega
            · simp only [Value.ownBlock, Option.some.injEq] at r
              omega
            · simp only [Value.ownBlock, Option.some.injEq] at r
              omega
end Go.Proofs.YtiiioeodanmieaaGreatDoor
