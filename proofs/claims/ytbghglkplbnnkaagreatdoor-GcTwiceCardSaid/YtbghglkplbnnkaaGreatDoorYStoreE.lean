import Derived.Deep.DeepCutAuto
import Derived.Test.YtbghglkplbnnkaaGreatDoorYStoreC
import Derived.Test.YtbghglkplbnnkaaGreatDoorYLoopC
set_option linter.unusedVariables false
set_option linter.unusedSimpArgs false
-- StoreRead
namespace Go.Proofs.YtbghglkplbnnkaaGreatDoor
open Go.RowKit Sec
open Go.Proofs.YtbghglkplbnnkaaGreatDoor.Bk

set_option maxRecDepth 100000 in
set_option maxHeartbeats 1000000 in
theorem read_is3 {B : Nat} {G : Nat → Prop} {w : World} {p : Nat} {D : Dsk} (h : AtK B G w p D) (hon : D.on = true) (at_ : Nat) (hat : at_ ≤ 100000) (a b c : ByteArray) (e0 : D.now[at_]? = some a) (e1 : D.now[at_ + 1]? = some b) (e2 : D.now[at_ + 2]? = some c) :
    Calls Tryz.prog 153 #[.pointer (some ⟨p, 0, none⟩), .int .i64 (at_ : Int), .int .i64 3] w fun e w' => e = .returned (.tuple #[.slice (some ⟨w.heap.size, 0, none⟩) 3 3, .nilIface]) ∧ Below w.heap.size w w' ∧ w'.ownsRow w.heap.size 9 1 (.slice (some ⟨w.heap.size, 0, none⟩) 3 3) 3 (txts [a, b, c]) := by
  have hl : at_ + 2 < D.now.length := (List.getElem?_eq_some_iff.1 e2).1
  have hll := h.shape.1
  have HV : Hid (∀ (k : Nat) (u : World), k < 3 → AtK B G u p D → Calls Tryz.prog 107 #[.pointer (some ⟨p, 0, none⟩), .int .i64 ((at_ : Int) + (k : Int))] u fun e w' => e = .returned (.tuple #[.string ([a, b, c].getD k ByteArray.empty), .int .i64 0]) ∧ w' = u) := Lib.hid (fun k u hk hu => by
    have hm : D.mayR ((at_ : Int) + (k : Int)) = 0 := by
      have : D.has ((at_ : Int) + (k : Int)) = true := by simp only [Dsk.has, decide_eq_true_eq]; omega
      rw [Dsk.mayR, hon, if_pos rfl, this, if_pos rfl]
    have ha : D.at_ ((at_ : Int) + (k : Int)) = [a, b, c].getD k ByteArray.empty := by
      rw [Dsk.at_, show ((at_ : Int) + (k : Int)).toNat = at_ + k by omega, List.getD_eq_getElem?_getD]
      have : k = 0 ∨ k = 1 ∨ k = 2 := by omega
      rcases this with rfl | rfl | rfl
      · rw [Nat.add_zero, e0]; rfl
      · rw [e1]; rfl
      · rw [e2]; rfl
    have := Read_k hu ((at_ : Int) + (k : Int))
    rw [hm, if_pos rfl, ha] at this
    exact this)
  have HA := Lib.hid h
  have hati : (at_ : Int) ≤ 100000 := by omega
  clear h hon e0 e1 e2 hl hll
  have hmk : (Instr.makeSlice 181 (.int .i64 3) (.int .i64 3)).run Tryz.prog w = .ok (.slice (some ⟨w.heap.size, 0, none⟩) 3 3) (w.alloc (.cells (Array.replicate 3 (.string .empty)) 9)) := mkTexts w 3 (by omega)
  rw [rowK_zero (txts [a, b, c]) _ 3 rfl] at hmk
  have HE := Lib.hid (owns_laid w w.heap.size 9 (txts [a, b, c]) 3 rfl (Nat.le_refl _) (by unfold maxLen; omega))
  rw [← rowK_end (txts [a, b, c]) (.string .empty) 3 rfl] at HE
  go_enter Tryz.func153, Tryz.ntmps153
  go_wp2
  go_loopw [16] (fun i wr => ∃ k : Nat, k ≤ 3 ∧ i = .int .i64 (k : Int) ∧ wr = w.alloc (.cells (rowK (txts [a, b, c]) (.string .empty) k) 9)) (fun i _ => 3 - (intOf i).toNat)
  case atStart => exact ⟨0, Nat.zero_le _, rfl, rfl⟩
  case round =>
    obtain ⟨k, hk, rfl, rfl⟩ := hrel
    by_cases hlt : k < 3
    · have hck := rowK_at (txts [a, b, c]) (.string .empty) k hlt
      have HN := Lib.hid (rowK_next (txts [a, b, c]) (.string .empty) k hlt)
      have hki : (k : Int) < 3 := by omega
      have HV1 := Lib.hid (HV.out k (w.alloc (.cells (rowK (txts [a, b, c]) (.string .empty) k) 9)) hlt (HA.out.alloc _))
      have HT : Hid ((txts [a, b, c]).getD k (.string .empty) = .string ([a, b, c].getD k ByteArray.empty)) := Lib.hid (by
        have : k = 0 ∨ k = 1 ∨ k = 2 := by omega
        rcases this with rfl | rfl | rfl <;> rfl)
      rw [HT.out] at HN
      generalize [a, b, c].getD k ByteArray.empty = tk at *
      clear hmk
      go_wp2_with (go_at_call 107; refine HV1.out.mono ?_; rintro e' w' ⟨rfl, rfl⟩)
      refine ⟨⟨k + 1, by omega, by go_num, ?_⟩, by simp [intOf]; omega⟩
      rw [HN.out, Array.set!_eq_setIfInBounds]
    · obtain rfl : k = 3 := by omega
      have hn3 : ¬ ((3 : Nat) : Int) < 3 := by omega
      clear hlt hk hmk
      go_wp2
      go_ret2
      exact ⟨rfl, (Below.refl _ _).alloc (Nat.le_refl _) _, HE.out⟩
def PageIn (s : List ByteArray) (q no : Nat) (X : List Int) : Prop :=
  ∃ a b c, s[2 + 6 * no + 3 * (q % 2)]? = some a ∧ s[2 + 6 * no + 3 * (q % 2) + 1]? = some b ∧ s[2 + 6 * no + 3 * (q % 2) + 2]? = some c ∧ atIs no q [a, b, c] = true ∧ atC no q [a, b, c] = X
set_option maxRecDepth 100000 in
set_option maxHeartbeats 4000000 in
theorem cellsOf_is {B : Nat} {G : Nat → Prop} {w : World} {p : Nat} {D : Dsk} (h : AtK B G w p D) (hon : D.on = true) (q : Nat) (hd e : Int) (H L : Nat) (hg : 8 ≤ H ∧ H ≤ 400 ∧ 4 ≤ L ∧ L ≤ 300) (hq : q < 4294967296) (C : List Int) (hpg : ∀ no, no < pgs H → PageIn D.now q no (pgCells C no)) :
    Calls Tryz.prog 129 #[.pointer (some ⟨p, 0, none⟩), .agg #[.int .i64 (q : Int), .int .i64 hd, .int .i64 e, .int .i64 (H : Int), .int .i64 (L : Int)]] w fun r w' => ∃ v, r = .returned (.tuple #[v, .nilIface]) ∧ Below w.heap.size w w' ∧ w'.ownsRow w.heap.size 3 1 v (16 * pgs H) (vals (joinP C (pgs H))) := by
  obtain ⟨i0, hi, hz0, hz1, hz2⟩ := info_parts st_intInfo
  have HI := Lib.hid (And.intro hi (And.intro hz0 (And.intro hz1 hz2)))
  clear hi hz0 hz1 hz2
  have hp := (pgs_le hg.2.1).1
  have HG : Hid (∀ u, Calls Tryz.prog 71 #[.agg #[.int .i64 (q : Int), .int .i64 hd, .int .i64 e, .int .i64 (H : Int), .int .i64 (L : Int)]] u fun r w' => r = .returned (.agg #[.int .i64 (H : Int), .int .i64 (L : Int)]) ∧ Below u.heap.size u w') := Lib.hid (fun u => geoOf_is ⟨(q : Int), hd, e, (H : Int), (L : Int)⟩ u)
  have HS : Hid (∀ u, Calls Tryz.prog 123 #[.agg #[.int .i64 (q : Int), .int .i64 hd, .int .i64 e, .int .i64 (H : Int), .int .i64 (L : Int)]] u fun r w' => r = .returned (.int .i64 ((q % 2 : Nat) : Int)) ∧ Below u.heap.size u w') := Lib.hid (fun u => (slotOf_is ⟨(q : Int), hd, e, (H : Int), (L : Int)⟩ (Int.natCast_nonneg _) (by show (q : Int) < _; omega) u).mono fun r w' ⟨h1, h2⟩ => ⟨h1.trans (geo_i (by show (q : Int) % 2 = _; omega)), h2⟩)
  have HP : Hid (∀ u, Calls Tryz.prog 98 #[.agg #[.int .i64 (H : Int), .int .i64 (L : Int)]] u fun r w' => r = .returned (.int .i64 ((pgs H : Nat) : Int)) ∧ Below u.heap.size u w') := Lib.hid (fun u => (gpages_is H L u).mono fun r w' ⟨h1, h2⟩ => ⟨by rw [h1, ge_pages hg], h2⟩)
  have HA : Hid (∀ (no : Nat) u, no < pgs H → Calls Tryz.prog 122 #[.agg #[.int .i64 (H : Int), .int .i64 (L : Int)], .int .i64 (no : Int), .int .i64 ((q % 2 : Nat) : Int)] u fun r w' => r = .returned (.int .i64 ((2 + 6 * no + 3 * (q % 2) : Nat) : Int)) ∧ Below u.heap.size u w') := Lib.hid (fun no u hn => (gpage_is H L no _ u).mono fun r w' ⟨h1, h2⟩ => ⟨by rw [h1, ge_page hg hn (Nat.mod_lt _ (by omega))], h2⟩)
  have HR : Hid (∀ (no : Nat), no < pgs H → ∃ T : List ByteArray, (∀ u, AtK B G u p D → Calls Tryz.prog 153 #[.pointer (some ⟨p, 0, none⟩), .int .i64 ((2 + 6 * no + 3 * (q % 2) : Nat) : Int), .int .i64 3] u fun r w' => r = .returned (.tuple #[.slice (some ⟨u.heap.size, 0, none⟩) 3 3, .nilIface]) ∧ Below u.heap.size u w' ∧ w'.ownsRow u.heap.size 9 1 (.slice (some ⟨u.heap.size, 0, none⟩) 3 3) 3 (txts T)) ∧
      ∀ (g : Nat) u, LiesAt u (some ⟨g, 0, none⟩) (txts T) → Calls Tryz.prog 154 #[.int .i64 (no : Int), .int .i64 (q : Int), .slice (some ⟨g, 0, none⟩) 3 3] u fun r w' => ∃ v, r = .returned (.tuple #[v, .bool true]) ∧ Below u.heap.size u w' ∧ w'.ownsRow u.heap.size 3 1 v 16 (vals (pgCells C no))) := Lib.hid (fun no hn => by
    obtain ⟨a, b, c, s0, s1, s2, i1, i2⟩ := hpg no hn
    refine ⟨[a, b, c], fun u hu => read_is3 hu hon _ (by have := Nat.mod_lt q (show 0 < 2 by omega); omega) a b c s0 s1 s2, fun g u hu => ?_⟩
    have := pat_is (no : Int) (q : Int) (some ⟨g, 0, none⟩) [a, b, c] 3 u hu (by show 3 ≤ maxLen; unfold maxLen; omega) (fun _ => ⟨Nat.le_refl _, g, 0, rfl⟩)
    rw [i1, i2, pgCells_len] at this
    exact this)
  have HD0 := Lib.hid h
  have hq2 : q % 2 < 2 := Nat.mod_lt _ (by omega)
  have HJ := Lib.hid (fun n => joinP_next C n)
  have HJl := Lib.hid (fun n => pgCells_len C n)
  clear h hon hpg hg hq
  generalize hP : pgs H = P at *
  clear hP
  generalize hs : q % 2 = s at *
  clear hs
  go_enter Tryz.func129, Tryz.ntmps129
  go_wp2_with (first
    | (go_at_call 71
       refine (HG.out _).mono ?_
       rintro e' w1 ⟨rfl, b1⟩
       have R1 := Lib.hid (Row5.laid b1)
       clear b1)
    | (go_at_call 98
       refine (HP.out _).mono ?_
       rintro e' w3 ⟨rfl, b3⟩
       have R3 := Lib.hid (And.intro ((R1.out.1.alloc _).below b3) (And.intro (GBox.laid b3).1 (R1.out.2.trans ((GBox.laid b3).2.mono R1.out.2.size))))
       clear b3))
  have HC := Lib.hid (seven R3.out.1.lt R3.out.2.1.lt R3.out.1.c0 R3.out.1.c1 R3.out.1.c2 R3.out.1.c3 R3.out.1.c4 R3.out.2.1.c0 R3.out.2.1.c1)
  generalize w1.heap.size = b1 at *
  have hs3 := R3.out.2.2.size
  go_loopw [7, 17] (fun l i wr => ∃ k, k ≤ P ∧ i = .int .i64 (k : Int) ∧ Hid (Below w3.heap.size w3 wr ∧ wr.ownsRow w3.heap.size 3 1 l (16 * k) (vals (joinP C k)))) (fun _ i _ => P - (intOf i).toNat)
  case atStart => exact ⟨0, Nat.zero_le _, rfl, Lib.hid ⟨Below.refl _ _, World.ownsRow_nil _ _ _ _⟩⟩
  case round =>
    obtain ⟨k, hk, rfl, HO⟩ := hrel
    have hki : (k : Int) ≤ 51 := by omega
    obtain ⟨c0, c1, c2, c3, c4, c5, c6⟩ := HC.out _ HO.out.1
    by_cases hlt : k < P
    · have hi1 : (k : Int) < (P : Int) := by omega
      have HA1 := Lib.hid (fun u => HA.out k u hlt)
      obtain ⟨T, hT1, hT2⟩ := HR.out k hlt
      have HT1 := Lib.hid hT1
      have HT2 := Lib.hid hT2
      have HD := Lib.hid (fun u (b : Below wr.heap.size wr u) => HC.out u (HO.out.1.trans (b.mono HO.out.1.size)))
      have HDK := Lib.hid (fun u (b : Below wr.heap.size wr u) => HD0.out.below (R3.out.2.2.trans ((HO.out.1.trans (b.mono HO.out.1.size)).mono hs3)))
      have HJ1 := Lib.hid (HJ.out k)
      clear hT1 hT2
      generalize 2 + 6 * k + 3 * s = at_ at *
      go_wp2
      go_region_held3 (fun u => u.cell? ⟨w.heap.size, 0, none⟩ = some (.int .i64 (q : Int)) ∧ u.cell? ⟨w.heap.size, 1, none⟩ = some (.int .i64 hd) ∧ u.cell? ⟨w.heap.size, 2, none⟩ = some (.int .i64 e) ∧ u.cell? ⟨w.heap.size, 3, none⟩ = some (.int .i64 (H : Int)) ∧ u.cell? ⟨w.heap.size, 4, none⟩ = some (.int .i64 (L : Int)) ∧ u.cell? ⟨b1, 0, none⟩ = some (.int .i64 (H : Int)) ∧ u.cell? ⟨b1, 1, none⟩ = some (.int .i64 (L : Int))) (first
          | assumption
          | exact HD.out _ (Below.refl _ _)
          | exact HD.out _ (Below.refl _ _).drew
          | exact HD.out _ b4
          | exact HD.out _ b5
          | exact HD.out _ H6.out.1) (first
        | (go_at_call 123
           refine (HS.out _).mono ?_
           rintro e' w4 ⟨rfl, b4⟩
           replace b4 : Below wr.heap.size wr w4 := (by first | exact Below.refl _ _ | exact (Below.refl _ _).drew : Below wr.heap.size wr _).trans (b4.mono (by first | exact Nat.le_refl _ | simp)))
        | (go_at_call 122
           refine (HA1.out _).mono ?_
           rintro e' w5 ⟨rfl, b5⟩
           replace b5 : Below wr.heap.size wr w5 := (by first | exact b4 | exact b4.drew : Below wr.heap.size wr _).trans (b5.mono (by first | exact b4.size | exact b4.drew.size)))
        | (go_at_call 153
           refine (HT1.out _ (HDK.out _ (by first | exact b5 | exact b5.drew))).mono ?_
           rintro e' w6 ⟨rfl, b6, o6⟩
           have H6 := Lib.hid (And.intro ((by first | exact b5 | exact b5.drew : Below wr.heap.size wr _).trans (b6.mono (by first | exact b5.size | exact b5.drew.size))) o6)
           clear b6 o6))
      all_goals
        obtain ⟨d0, d1, d2, d3, d4, d5, d6⟩ := HD.out _ H6.out.1
        have HL6 := Lib.hid (fun (u : World) (b : Below w6.heap.size w6 u) => row_liesK (own_belowK H6.out.2 b))
        go_wp2_with (first
          | (go_at_call 154
             refine (HT2.out _ _ (HL6.out _ (Below.refl _ _))).mono ?_
             rintro e' w7 ⟨v7, rfl, b7, o7⟩
             obtain ⟨a7, c7, rfl, l7, _⟩ := own_formK o7
             have H7 := Lib.hid (And.intro (H6.out.1.trans (b7.mono H6.out.1.size)) l7)
             clear b7 o7 l7)
          | (refine wpList_append_row rfl (.tmp 47) (.tmp 48) 24 rfl w3.heap.size 3 i0 _ 1 8 Tryz.underlying24 HI.out.1 HI.out.2.1 HI.out.2.2.1 HI.out.2.2.2 rfl (by omega) u7 (16 * k) (vals (joinP C k)) rfl (own_belowK HO.out.2 H7.out.1) a7 16 c7 (vals (pgCells C k)) rfl (by rw [vals, List.length_map, HJl.out]) H7.out.2 vals_one (by unfold maxLen; omega) (by omega) (Nat.le_trans HO.out.1.size H7.out.1.size) ?_
             intro v8 w8 ho8 hg8
             have H8 := Lib.hid (And.intro ((HO.out.1.trans (H7.out.1.mono HO.out.1.size)).grown hg8 (Nat.le_trans HO.out.1.size H7.out.1.size) (fun b hb => (HO.out.2.lt b hb).1)) ho8)
             clear ho8 hg8))
        refine ⟨⟨k + 1, by omega, by go_num, Lib.hid ⟨H8.out.1, ?_⟩⟩, by simp [intOf]; omega⟩
        rw [HJ1.out, show 16 * (k + 1) = 16 * k + 16 by omega, vals, List.map_append]
        exact H8.out.2
    · obtain rfl : k = P := by omega
      have hn : ¬ (k : Int) < (k : Int) := by omega
      go_wp2
      go_ret2
      exact ⟨_, rfl, R3.out.2.2.trans (HO.out.1.mono hs3), owns_base' hs3 HO.out.2⟩
end Go.Proofs.YtbghglkplbnnkaaGreatDoor
-- StoreSuper
namespace Go.Proofs.YtbghglkplbnnkaaGreatDoor
open Go.RowKit Sec
open Go.Proofs.YtbghglkplbnnkaaGreatDoor.Bk

theorem read_at {B : Nat} {G : Nat → Prop} {u : World} {p : Nat} {D : Dsk} (h : AtK B G u p D) (hon : D.on = true) (k : Nat) (a : ByteArray) (s : D.now[k]? = some a) :
    Calls Tryz.prog 107 #[.pointer (some ⟨p, 0, none⟩), .int .i64 (k : Int)] u fun e w' => e = .returned (.tuple #[.string a, .int .i64 0]) ∧ w' = u := by
  have hk : k < D.now.length := (List.getElem?_eq_some_iff.1 s).1
  have hll := h.shape.1
  have hm : D.mayR (k : Int) = 0 := by
    have : D.has (k : Int) = true := by simp only [Dsk.has, decide_eq_true_eq]; omega
    rw [Dsk.mayR, hon, if_pos rfl, this, if_pos rfl]
  have ha : D.at_ (k : Int) = a := by
    rw [Dsk.at_, Int.toNat_natCast, List.getD_eq_getElem?_getD, s]; rfl
  have := Read_k h (k : Int)
  rw [hm, if_pos rfl, ha] at this
  exact this
theorem Row5.cells {w3 u : World} {g : Nat} {v0 v1 v2 v3 v4 : Value} (r : Row5 w3 g v0 v1 v2 v3 v4) (b : Below w3.heap.size w3 u) : u.cell? ⟨g, 0, none⟩ = some v0 ∧ u.cell? ⟨g, 1, none⟩ = some v1 ∧ u.cell? ⟨g, 2, none⟩ = some v2 ∧ u.cell? ⟨g, 3, none⟩ = some v3 ∧ u.cell? ⟨g, 4, none⟩ = some v4 :=
  have x := r.below b
  ⟨x.c0, x.c1, x.c2, x.c3, x.c4⟩

set_option maxRecDepth 100000 in
set_option maxHeartbeats 4000000 in
theorem superOf_is {B : Nat} {G : Nat → Prop} {w : World} {p : Nat} {D : Dsk} (h : AtK B G w p D) (hon : D.on = true) (a b : ByteArray) (s0 : D.now[0]? = some a) (s1 : D.now[1]? = some b)
    (fq fh fe gq gh ge nq nh ne : Int) (H L : Nat) (ia : crIs a = true) (ib : crIs b = true) (ca : cgetS a = ⟨fq, fh, fe, H, L⟩) (cb : cgetS b = ⟨gq, gh, ge, H, L⟩) (cn : newS a b = ⟨nq, nh, ne, H, L⟩)
    (p0 : fq % 2 = 0) (p1 : gq % 2 = 1) (bf : 0 ≤ fq ∧ fq < 4294967296) (bg : 0 ≤ gq ∧ gq < 4294967296) (dq : fq - gq = 1 ∨ gq - fq = 1) (hg : 8 ≤ H ∧ H ≤ 400 ∧ 4 ≤ L ∧ L ≤ 300) (hlen : 2 + 6 * pgs H + L ≤ D.now.length) (sz : a.size ≤ maxLen ∧ b.size ≤ maxLen) :
    Calls Tryz.prog 108 #[.pointer (some ⟨p, 0, none⟩)] w fun r w' => r = .returned (.tuple #[.agg #[.int .i64 nq, .int .i64 nh, .int .i64 ne, .int .i64 (H : Int), .int .i64 (L : Int)], .nilIface]) ∧ Below w.heap.size w w' := by
  have hll := h.shape.1
  have HR0 : Hid (∀ u, AtK B G u p D → Calls Tryz.prog 107 #[.pointer (some ⟨p, 0, none⟩), .int .i64 0] u fun e w' => e = .returned (.tuple #[.string a, .int .i64 0]) ∧ w' = u) := Lib.hid (fun u hu => read_at hu hon 0 a s0)
  have HR1 : Hid (∀ u, AtK B G u p D → Calls Tryz.prog 107 #[.pointer (some ⟨p, 0, none⟩), .int .i64 1] u fun e w' => e = .returned (.tuple #[.string b, .int .i64 0]) ∧ w' = u) := Lib.hid (fun u hu => read_at hu hon 1 b s1)
  have HGa : Hid (∀ u, Calls Tryz.prog 127 #[.string a] u fun r w' => r = .returned (.tuple #[.agg #[.int .i64 fq, .int .i64 fh, .int .i64 fe, .int .i64 (H : Int), .int .i64 (L : Int)], .bool true]) ∧ Below u.heap.size u w') := Lib.hid (fun u => by have := cget_is a sz.1 u; rw [ia, ca] at this; exact this)
  have HGb : Hid (∀ u, Calls Tryz.prog 127 #[.string b] u fun r w' => r = .returned (.tuple #[.agg #[.int .i64 gq, .int .i64 gh, .int .i64 ge, .int .i64 (H : Int), .int .i64 (L : Int)], .bool true]) ∧ Below u.heap.size u w') := Lib.hid (fun u => by have := cget_is b sz.2 u; rw [ib, cb] at this; exact this)
  have HN : Hid (∀ u, ∃ z : Value, Calls Tryz.prog 128 #[.string a, .string b] u fun r w' => r = .returned (.tuple #[.agg #[.int .i64 nq, .int .i64 nh, .int .i64 ne, .int .i64 (H : Int), .int .i64 (L : Int)], z, .bool true]) ∧ Below u.heap.size u w') := Lib.hid (fun u => ⟨_, by have := newer_is a b sz.1 sz.2 u; rw [ia, ib, cn] at this; exact this⟩)
  have HPf : Hid (∀ u, Calls Tryz.prog 125 #[.agg #[.int .i64 fq, .int .i64 fh, .int .i64 fe, .int .i64 (H : Int), .int .i64 (L : Int)]] u fun r w' => r = .returned (.int .i64 0) ∧ Below u.heap.size u w') := Lib.hid (fun u => by have := place_is ⟨fq, fh, fe, H, L⟩ u; rw [show (⟨fq, fh, fe, H, L⟩ : Sup).q = fq from rfl, sand1 fq bf.1 bf.2, p0] at this; exact this)
  have HPg : Hid (∀ u, Calls Tryz.prog 125 #[.agg #[.int .i64 gq, .int .i64 gh, .int .i64 ge, .int .i64 (H : Int), .int .i64 (L : Int)]] u fun r w' => r = .returned (.int .i64 1) ∧ Below u.heap.size u w') := Lib.hid (fun u => by have := place_is ⟨gq, gh, ge, H, L⟩ u; rw [show (⟨gq, gh, ge, H, L⟩ : Sup).q = gq from rfl, sand1 gq bg.1 bg.2, p1] at this; exact this)
  have HOf : Hid (∀ (x y z : Int) u, Calls Tryz.prog 71 #[.agg #[.int .i64 x, .int .i64 y, .int .i64 z, .int .i64 (H : Int), .int .i64 (L : Int)]] u fun r w' => r = .returned (.agg #[.int .i64 (H : Int), .int .i64 (L : Int)]) ∧ Below u.heap.size u w') := Lib.hid (fun x y z u => geoOf_is ⟨x, y, z, (H : Int), (L : Int)⟩ u)
  have HS : Hid (∀ u, Calls Tryz.prog 61 #[.agg #[.int .i64 (H : Int), .int .i64 (L : Int)]] u fun r w' => r = .returned (.int .i64 ((2 + 6 * pgs H + L : Nat) : Int)) ∧ Below u.heap.size u w') := Lib.hid (fun u => (gsectors_is H L u).mono fun r w' ⟨h1, h2⟩ => ⟨by rw [h1, ge_sectors hg], h2⟩)
  have HL : Hid (∀ u, AtK B G u p D → Calls Tryz.prog 88 #[.pointer (some ⟨p, 0, none⟩)] u fun e w' => e = .returned (.int .i64 (D.lasts.length : Int)) ∧ w' = u) := Lib.hid (fun u hu => Len_k hu)
  have hlt : ¬ ((D.lasts.length : Int) < ((2 + 6 * pgs H + L : Nat) : Int)) := by omega
  have HA := Lib.hid h
  clear h hon s0 s1 ia ib ca cb cn p0 p1 hg hlen hll sz
  generalize (D.lasts.length : Int) = m at *
  generalize ((2 + 6 * pgs H + L : Nat) : Int) = n at *
  have HB0 := Lib.hid ((Below.refl w.heap.size w).alloc (Nat.le_refl _) (.cells #[.int .i64 0, .int .i64 0, .int .i64 0, .int .i64 0, .int .i64 0] 113))
  go_enter Tryz.func108, Tryz.ntmps108
  go_wp2_with (first
    | (go_at_call 107
       with_reducible refine (HR0.out _ (HA.out.below HB0.out)).mono ?_
       rintro e' w' ⟨rfl, rfl⟩)
    | (go_at_call 107
       with_reducible refine (HR1.out _ (HA.out.below HB0.out)).mono ?_
       rintro e' w' ⟨rfl, rfl⟩)
    | (go_at_call 127
       with_reducible refine (HGa.out _).mono ?_
       rintro e' w1 ⟨rfl, b1⟩
       have H1 := Lib.hid (And.intro ((Row5.made w (.int .i64 0) (.int .i64 0) (.int .i64 0) (.int .i64 0) (.int .i64 0) 113).below b1) (HB0.out.trans (b1.mono HB0.out.size)))
       clear b1)
    | (go_at_call 127
       with_reducible refine (HGb.out _).mono ?_
       rintro e' w2 ⟨rfl, b2⟩
       have H2 := Lib.hid (And.intro ((Row5.made w1 _ _ _ _ _ _).below b2) (And.intro ((H1.out.1.alloc _).below b2) (H1.out.2.trans ((((Below.refl _ _).alloc (Nat.le_refl _) _).trans (b2.mono (by simp))).mono H1.out.2.size))))
       clear b2)
    | (go_at_call 128
       obtain ⟨z3, hz3⟩ := HN.out (w2.alloc (.cells #[.int .i64 gq, .int .i64 gh, .int .i64 ge, .int .i64 (H : Int), .int .i64 (L : Int)] 113))
       with_reducible refine hz3.mono ?_
       rintro e' w3 ⟨rfl, b3⟩
       clear hz3
       have H3 := Lib.hid (And.intro ((Row5.made w2 _ _ _ _ _ _).below b3) (And.intro ((H2.out.1.alloc _).below b3) (And.intro ((H2.out.2.1.alloc _).below b3) (H2.out.2.2.trans ((((Below.refl _ _).alloc (Nat.le_refl _) _).trans (b3.mono (by simp))).mono H2.out.2.2.size)))))
       have H4 := Lib.hid (And.intro (H3.out.2.1.alloc (.cells #[.int .i64 nq, .int .i64 nh, .int .i64 ne, .int .i64 (H : Int), .int .i64 (L : Int)] 113)) (And.intro (H3.out.1.alloc (.cells #[.int .i64 nq, .int .i64 nh, .int .i64 ne, .int .i64 (H : Int), .int .i64 (L : Int)] 113)) (And.intro (Row5.made w3 (.int .i64 nq) (.int .i64 nh) (.int .i64 ne) (.int .i64 (H : Int)) (.int .i64 (L : Int)) 113) (And.intro (H3.out.2.2.1.alloc (.cells #[.int .i64 nq, .int .i64 nh, .int .i64 ne, .int .i64 (H : Int), .int .i64 (L : Int)] 113)) (H3.out.2.2.2.alloc H3.out.2.2.2.size (.cells #[.int .i64 nq, .int .i64 nh, .int .i64 ne, .int .i64 (H : Int), .int .i64 (L : Int)] 113))))))
       obtain ⟨f0, f1, f2, f3, f4⟩ := H4.out.1.cells (Below.refl _ _)
       clear b3)
    | (go_at_call 125
       with_reducible refine (HPf.out _).mono ?_
       rintro e' w4 ⟨rfl, b4⟩
       obtain ⟨g0, g1, g2, g3, g4⟩ := H4.out.2.1.cells b4
       have H5 := Lib.hid b4
       clear b4)
    | (go_at_call 125
       with_reducible refine (HPg.out _).mono ?_
       rintro e' w5 ⟨rfl, b5⟩
       have H6 := Lib.hid (H5.out.trans (b5.mono H5.out.size))
       clear b5))
  generalize (w3.alloc (.cells #[.int .i64 nq, .int .i64 nh, .int .i64 ne, .int .i64 (H : Int), .int .i64 (L : Int)] 113)) = W3 at *
  clear f0 f1 f2 f3 f4 g0 g1 g2 g3 g4
  have HC : Hid (∀ u, Below W3.heap.size W3 u → (u.cell? ⟨w1.heap.size, 0, none⟩ = some (.int .i64 fq) ∧ u.cell? ⟨w1.heap.size, 1, none⟩ = some (.int .i64 fh) ∧ u.cell? ⟨w1.heap.size, 2, none⟩ = some (.int .i64 fe) ∧ u.cell? ⟨w1.heap.size, 3, none⟩ = some (.int .i64 (H : Int)) ∧ u.cell? ⟨w1.heap.size, 4, none⟩ = some (.int .i64 (L : Int)) ∧ u.cell? ⟨w2.heap.size, 0, none⟩ = some (.int .i64 gq) ∧ u.cell? ⟨w2.heap.size, 1, none⟩ = some (.int .i64 gh) ∧ u.cell? ⟨w2.heap.size, 2, none⟩ = some (.int .i64 ge) ∧ u.cell? ⟨w2.heap.size, 3, none⟩ = some (.int .i64 (H : Int)) ∧ u.cell? ⟨w2.heap.size, 4, none⟩ = some (.int .i64 (L : Int)))) := Lib.hid (fun u b => by
    obtain ⟨f0, f1, f2, f3, f4⟩ := H4.out.1.cells b
    obtain ⟨g0, g1, g2, g3, g4⟩ := H4.out.2.1.cells b
    exact ⟨f0, f1, f2, f3, f4, g0, g1, g2, g3, g4⟩)
  have HCn : Hid (∀ u, Below W3.heap.size W3 u → (u.cell? ⟨w3.heap.size, 0, none⟩ = some (.int .i64 nq) ∧ u.cell? ⟨w3.heap.size, 1, none⟩ = some (.int .i64 nh) ∧ u.cell? ⟨w3.heap.size, 2, none⟩ = some (.int .i64 ne) ∧ u.cell? ⟨w3.heap.size, 3, none⟩ = some (.int .i64 (H : Int)) ∧ u.cell? ⟨w3.heap.size, 4, none⟩ = some (.int .i64 (L : Int)))) := Lib.hid (fun u b => H4.out.2.2.1.cells b)
  obtain ⟨f0, f1, f2, f3, f4, g0, g1, g2, g3, g4⟩ := HC.out _ H6.out
  have M1 : Hid True := Lib.hid trivial
  go_region_held3 (fun u => u.cell? ⟨w1.heap.size, 0, none⟩ = some (.int .i64 fq) ∧ u.cell? ⟨w1.heap.size, 1, none⟩ = some (.int .i64 fh) ∧ u.cell? ⟨w1.heap.size, 2, none⟩ = some (.int .i64 fe) ∧ u.cell? ⟨w1.heap.size, 3, none⟩ = some (.int .i64 (H : Int)) ∧ u.cell? ⟨w1.heap.size, 4, none⟩ = some (.int .i64 (L : Int)) ∧ u.cell? ⟨w2.heap.size, 0, none⟩ = some (.int .i64 gq) ∧ u.cell? ⟨w2.heap.size, 1, none⟩ = some (.int .i64 gh) ∧ u.cell? ⟨w2.heap.size, 2, none⟩ = some (.int .i64 ge) ∧ u.cell? ⟨w2.heap.size, 3, none⟩ = some (.int .i64 (H : Int)) ∧ u.cell? ⟨w2.heap.size, 4, none⟩ = some (.int .i64 (L : Int))) (first
      | assumption
      | exact HC.out _ H6.out
      | exact HC.out _ H6.out.drew
      | exact HC.out _ b6
      | exact HC.out _ b7) (first
    | (go_at_call 71
       have mm := M1.out
       refine (HOf.out _ _ _ _).mono ?_
       rintro e' w6 ⟨rfl, b6⟩
       replace b6 : Below W3.heap.size W3 w6 := (by first | exact H6.out | exact H6.out.drew : Below W3.heap.size W3 _).trans (b6.mono (by first | exact H6.out.size | exact H6.out.drew.size))
       clear M1 mm)
    | (go_at_call 71
       refine (HOf.out _ _ _ _).mono ?_
       rintro e' w7 ⟨rfl, b7⟩
       replace b7 : Below W3.heap.size W3 w7 := (by first | exact b6 | exact b6.drew : Below W3.heap.size W3 _).trans (b7.mono (by first | exact b6.size | exact b6.drew.size))
       have H7 := Lib.hid b7))
  clear f0 f1 f2 f3 f4 g0 g1 g2 g3 g4
  obtain ⟨f0, f1, f2, f3, f4, g0, g1, g2, g3, g4⟩ := HC.out _ H7.out
  obtain ⟨n0, n1, n2, n3, n4⟩ := HCn.out _ H7.out
  have hd2 : (fq - gq = 1 ∧ gq - fq = -1) ∨ (fq - gq = -1 ∧ gq - fq = 1) := by omega
  clear dq bf bg
  rcases hd2 with ⟨dq1, dq2⟩ | ⟨dq1, dq2⟩
  all_goals
    go_wp2
    clear f0 f1 f2 f3 f4 g0 g1 g2 g3 g4
    go_region_held3 (fun u => u.cell? ⟨w3.heap.size, 0, none⟩ = some (.int .i64 nq) ∧ u.cell? ⟨w3.heap.size, 1, none⟩ = some (.int .i64 nh) ∧ u.cell? ⟨w3.heap.size, 2, none⟩ = some (.int .i64 ne) ∧ u.cell? ⟨w3.heap.size, 3, none⟩ = some (.int .i64 (H : Int)) ∧ u.cell? ⟨w3.heap.size, 4, none⟩ = some (.int .i64 (L : Int))) (first
        | assumption
        | exact HCn.out _ H7.out
        | exact HCn.out _ H7.out.drew
        | exact HCn.out _ b8
        | exact HCn.out _ b9) (first
      | (go_at_call 88
         refine (HL.out _ (HA.out.below (H4.out.2.2.2.2.trans ((by first | exact H7.out | exact H7.out.drew : Below W3.heap.size W3 _).mono H4.out.2.2.2.2.size)))).mono ?_
         rintro e' w' ⟨rfl, rfl⟩)
      | (go_at_call 71
         refine (HOf.out _ _ _ _).mono ?_
         rintro e' w8 ⟨rfl, b8⟩
         replace b8 : Below W3.heap.size W3 w8 := (by first | exact H7.out | exact H7.out.drew : Below W3.heap.size W3 _).trans (b8.mono (by first | exact H7.out.size | exact H7.out.drew.size)))
      | (go_at_call 61
         refine (HS.out _).mono ?_
         rintro e' w9 ⟨rfl, b9⟩
         replace b9 : Below W3.heap.size W3 w9 := (by first | exact b8 | exact b8.drew : Below W3.heap.size W3 _).trans (b9.mono (by first | exact b8.size | exact b8.drew.size))
         have H9 := Lib.hid b9))
    all_goals
      obtain ⟨m0, m1, m2, m3, m4⟩ := HCn.out _ H9.out
      have RZ := Lib.hid (H4.out.2.2.2.1.below H9.out)
      obtain ⟨_, z0, z1, z2, z3', z4, y0, y1, y2, y3, y4⟩ := RZ.out
      have HF := Lib.hid (H4.out.2.2.2.2.trans (H9.out.mono H4.out.2.2.2.2.size))
      clear n0 n1 n2 n3 n4
      go_wp2
      refine bodyPost_ret (results_cell2 (x := .agg #[.int .i64 nq, .int .i64 nh, .int .i64 ne, .int .i64 (H : Int), .int .i64 (L : Int)]) (y := .nilIface) rfl rfl (RZ.out.set5 _ _ _ _ _).load rfl) rfl ?_
      exact ⟨rfl, Row5.kept HF.out⟩
end Go.Proofs.YtbghglkplbnnkaaGreatDoor
-- StoreOf
namespace Go.Proofs.YtbghglkplbnnkaaGreatDoor
open Go.RowKit Sec
open Go.Proofs.YtbghglkplbnnkaaGreatDoor.Bk

theorem owns_setC {w : World} {base : Nat} {e : TypeId} {k n : Nat} {v : Value} {xs : List Value} (h : w.ownsRow base e k v n xs) {a : Addr} (x : Value) (hne : v.ownBlock ≠ some a.block) : (w.setCell a x).ownsRow base e k v n xs :=
  owns_same h (fun g hg => heap_setCell_ne _ _ _ _ (fun q => hne (by rw [hg, q])))
theorem applyL_next (C : List Int) (l : List Chg) (k : Nat) (hk : k < l.length) : applyL C (l.take (k + 1)) = putC (applyL C (l.take k)) l[k] := by
  rw [List.take_succ_eq_append_getElem hk, applyL_one]

theorem own_len {w : World} {base : Nat} {e : TypeId} {k n : Nat} {v : Value} {xs : List Value} (h : w.ownsRow base e k v n xs) : n ≤ maxLen := by
  rcases h.2 with ⟨_, q⟩ | ⟨g, cap, cur, _, _, _, h1, h2, _⟩
  · omega
  · exact Nat.le_trans h1 h2

set_option maxRecDepth 100000 in
set_option maxHeartbeats 4000000 in
theorem storeOf_is {B : Nat} {G : Nat → Prop} {w : World} {p : Nat} {D : Dsk} (h : AtK B G w p D) (hon : D.on = true) (q hd nx : Nat) (e : Int) (H L : Nat) (hg : 8 ≤ H ∧ H ≤ 400 ∧ 4 ≤ L ∧ L ≤ 300) (hq : q < 4294967296) (hn : nx < 900000000) (e0 : 0 ≤ e) (e1 : e < 900000000)
    (C : List Int) (hC : C.length = 16 + 2 * H) (hpg : ∀ no, no < pgs H → PageIn D.now q no (pgCells C no)) (all : List Chg) (hl : LogIs D (2 + 6 * pgs H) L hd nx e all) (hf : FineL (16 + 2 * H) all) :
    Calls Tryz.prog 109 #[.pointer (some ⟨p, 0, none⟩), .agg #[.int .i64 (q : Int), .int .i64 (hd : Int), .int .i64 e, .int .i64 (H : Int), .int .i64 (L : Int)]] w fun r w' => ∃ s lq vC vW, r = .returned (.tuple #[.pointer (some ⟨s, 0, none⟩), .nilIface]) ∧ StAt B G w' s p lq D ((2 + 6 * pgs H : Nat) : Int) L hd nx e (crS q hd e H L) (joinP (applyL C all) (pgs H)) (joinP (applyL C all) (pgs H)) false vC vW ∧ Below w.heap.size w w' := by
  have hp := (pgs_le hg.2.1)
  have n1 := hl.n1
  have nord := hl.ord
  have ncap := hl.cap
  have nlen := hl.len
  have hll := h.shape.1
  have hl3 := h.shape.2.1
  have HG : Hid (∀ u, Calls Tryz.prog 71 #[.agg #[.int .i64 (q : Int), .int .i64 (hd : Int), .int .i64 e, .int .i64 (H : Int), .int .i64 (L : Int)]] u fun r w' => r = .returned (.agg #[.int .i64 (H : Int), .int .i64 (L : Int)]) ∧ Below u.heap.size u w') := Lib.hid (fun u => geoOf_is ⟨(q : Int), hd, e, (H : Int), (L : Int)⟩ u)
  have HCe : Hid (∀ u, AtK B G u p D → Calls Tryz.prog 129 #[.pointer (some ⟨p, 0, none⟩), .agg #[.int .i64 (q : Int), .int .i64 (hd : Int), .int .i64 e, .int .i64 (H : Int), .int .i64 (L : Int)]] u fun r w' => ∃ v, r = .returned (.tuple #[v, .nilIface]) ∧ Below u.heap.size u w' ∧ w'.ownsRow u.heap.size 3 1 v (16 * pgs H) (vals (joinP C (pgs H)))) := Lib.hid (fun u hu => cellsOf_is hu hon q hd e H L hg hq C hpg)
  have HLo : Hid (∀ u, Calls Tryz.prog 87 #[.agg #[.int .i64 (H : Int), .int .i64 (L : Int)]] u fun r w' => r = .returned (.int .i64 ((2 + 6 * pgs H : Nat) : Int)) ∧ Below u.heap.size u w') := Lib.hid (fun u => (glog_is H L u).mono fun r w' ⟨h1, h2⟩ => ⟨by rw [h1, ge_log hg], h2⟩)
  have HGc : Hid (∀ u, Calls Tryz.prog 75 #[.agg #[.int .i64 (H : Int), .int .i64 (L : Int)]] u fun r w' => r = .returned (.int .i64 ((16 + 2 * H : Nat) : Int)) ∧ Below u.heap.size u w') := Lib.hid (fun u => (gcells_is H L u).mono fun r w' ⟨h1, h2⟩ => ⟨by rw [h1, ge_cells hg], h2⟩)
  have HSc : Hid (∀ u, AtK B G u p D → Calls Tryz.prog 130 #[.pointer (some ⟨p, 0, none⟩), .int .i64 ((2 + 6 * pgs H : Nat) : Int), .int .i64 (L : Int), .int .i64 (hd : Int), .int .i64 e] u fun r w' => ∃ v, r = .returned (.tuple #[v, .int .i64 (nx : Int), .int .i64 0]) ∧ Below u.heap.size u w' ∧ w'.ownsRow u.heap.size 200 2 v all.length (flat Chg.cells all)) := Lib.hid (fun u hu =>
    (scan_is hu hon ((2 + 6 * pgs H : Nat) : Int) (L : Int) (hd : Int) e (decide_eq_true ⟨by omega, by omega, by omega, by omega, by omega, by omega, e0, by omega, by omega⟩) L rfl (by omega) all (nx - hd) hl.scan).mono fun r w' ⟨v, he, hb, ho⟩ => ⟨v, by rw [he, show wrap64 ((hd : Int) + ((nx - hd : Nat) : Int)) = (nx : Int) by unfold wrap64; omega], hb, ho⟩)
  have HNe : Hid (∀ (G' : Nat → Prop) u, AtK B G' u p D → Calls Tryz.prog 131 #[.pointer (some ⟨p, 0, none⟩), .int .i64 ((2 + 6 * pgs H : Nat) : Int), .int .i64 (L : Int), .int .i64 (hd : Int), .int .i64 (nx : Int), .int .i64 e] u fun r w' => ∃ lq, r = .returned (.pointer (some ⟨lq, 0, none⟩)) ∧ LogAt B G' w' lq p D ((2 + 6 * pgs H : Nat) : Int) L hd nx e ∧ Below u.heap.size u w') := Lib.hid (fun G' u hu => lnew_yes hu _ _ _ _ _ (decide_eq_true ⟨by omega, by omega, by omega, by omega, by omega, by omega, e0, by omega, by omega⟩))
  have HCl : Hid (∀ (a : Option Addr) (c : Nat) (X : List Int) u, X.length = 16 * pgs H → LiesAt u a (vals X) → Calls Tryz.prog 74 #[.slice a (16 * pgs H) c] u fun r w' => ∃ g c', r = .returned (.slice (some ⟨g, 0, none⟩) (16 * pgs H) c') ∧ Below u.heap.size u w' ∧ w'.ownsRow u.heap.size 3 1 (.slice (some ⟨g, 0, none⟩) (16 * pgs H) c') (16 * pgs H) (vals X)) := Lib.hid (fun a c X u hX hu =>
    (clone_int a (16 * pgs H) c (vals X) u (by omega) (by rw [vals, List.length_map, hX]; omega) hu vals_one (fun ha => by
      obtain ⟨b, hb, _⟩ := hu 0 (.int .i64 (X.getD 0 0)) (by simp [vals, show 0 < X.length by unfold pgs at *; omega])
      rw [ha] at hb; cases hb)).mono fun r w' ⟨a', c', he, hb, _, ho⟩ => by
      rcases ho with ⟨_, hz, _⟩ | ⟨g, rfl, _, ho⟩
      · exfalso; unfold pgs at *; omega
      · exact ⟨g, c', he, hb, ho⟩)
  have HA := Lib.hid h
  have HF : Hid (∀ x ∈ all, (0 ≤ x.c ∧ x.c < ((16 + 2 * H : Nat) : Int))) := Lib.hid (fun x hx => (hf x hx).1)
  have HJ : Hid (applyL (joinP C (pgs H)) all = joinP (applyL C all) (pgs H)) := Lib.hid (applyL_join (by omega) (fun x hx => by have := (hf x hx).1; rw [hC]; exact this))
  have HJl : Hid (∀ k, (applyL (joinP C (pgs H)) (all.take k)).length = 16 * pgs H) := Lib.hid (fun k => by rw [applyL_len, joinP_len])
  have hcl : 16 + 2 * H ≤ 16 * pgs H := hp.2
  have hcp : 16 * pgs H ≤ 816 := by omega
  have hN1 : 1 ≤ 16 * pgs H := by omega
  have HB := Lib.hid h.le
  have HS16 : Hid ((joinP (applyL C all) (pgs H)).length = 16 * pgs H) := Lib.hid (joinP_len _ _)
  clear h hon hpg hl hf hC hq
  generalize joinP (applyL C all) (pgs H) = XX at *
  generalize joinP C (pgs H) = X0 at *
  generalize 2 + 6 * pgs H = fr at *
  generalize 16 * pgs H = N at *
  generalize 16 + 2 * H = cN at *
  have hcNi : (cN : Int) ≤ (N : Int) := by omega
  go_enter Tryz.func109, Tryz.ntmps109
  go_wp2_with (first
    | (go_at_call 71
       refine (HG.out _).mono ?_
       rintro e' w1 ⟨rfl, b1⟩
       have R1 := Lib.hid (Row5.laid b1)
       have R2 := Lib.hid (And.intro (R1.out.1.alloc (.cells #[.int .i64 (H : Int), .int .i64 (L : Int)] 23)) (And.intro (GBox.made w1 (H : Int) (L : Int) 23) (R1.out.2.alloc R1.out.2.size (.cells #[.int .i64 (H : Int), .int .i64 (L : Int)] 23))))
       obtain ⟨r0, r1, r2, r3, r4⟩ := R2.out.1.cells (Below.refl _ _)
       clear b1)
    | (go_at_call 129
       refine (HCe.out _ (HA.out.below R2.out.2.2)).mono ?_
       rintro e' w3 ⟨v3, rfl, b3, o3⟩
       have R3 := Lib.hid (And.intro b3 o3)
       clear b3 o3))
  generalize w1.alloc (.cells #[.int .i64 (H : Int), .int .i64 (L : Int)] 23) = W2 at *
  generalize w1.heap.size = b1 at *
  clear r0 r1 r2 r3 r4
  have HC := Lib.hid (seven R2.out.1.lt R2.out.2.1.lt R2.out.1.c0 R2.out.1.c1 R2.out.1.c2 R2.out.1.c3 R2.out.1.c4 R2.out.2.1.c0 R2.out.2.1.c1)
  have hs2 := R2.out.2.2.size
  obtain ⟨c0, c1, c2, c3, c4, c5, c6⟩ := HC.out _ R3.out.1
  go_region_held3 (fun u => u.cell? ⟨w.heap.size, 0, none⟩ = some (.int .i64 (q : Int)) ∧ u.cell? ⟨w.heap.size, 1, none⟩ = some (.int .i64 (hd : Int)) ∧ u.cell? ⟨w.heap.size, 2, none⟩ = some (.int .i64 e) ∧ u.cell? ⟨w.heap.size, 3, none⟩ = some (.int .i64 (H : Int)) ∧ u.cell? ⟨w.heap.size, 4, none⟩ = some (.int .i64 (L : Int)) ∧ u.cell? ⟨b1, 0, none⟩ = some (.int .i64 (H : Int)) ∧ u.cell? ⟨b1, 1, none⟩ = some (.int .i64 (L : Int))) (first
      | assumption
      | exact HC.out _ R3.out.1
      | exact HC.out _ R3.out.1.drew
      | exact HC.out _ b4
      | exact HC.out _ H5.out.1) (first
    | (go_at_call 87
       refine (HLo.out _).mono ?_
       rintro e' w4 ⟨rfl, b4⟩
       replace b4 : Below w3.heap.size w3 w4 := (by first | exact Below.refl _ _ | exact (Below.refl _ _).drew : Below w3.heap.size w3 _).trans (b4.mono (by first | exact Nat.le_refl _ | simp))
       have H4 := Lib.hid b4
       replace b4 := R3.out.1.trans (b4.mono R3.out.1.size))
    | (go_at_call 130
       refine (HSc.out _ (HA.out.below (R2.out.2.2.trans ((by first | exact b4 | exact b4.drew : Below W2.heap.size W2 _).mono hs2)))).mono ?_
       rintro e' w5 ⟨v5, rfl, b5, o5⟩
       obtain ⟨a5, k5, rfl, l5, _⟩ := own_formK o5
       have b35 : Below w3.heap.size w3 w5 := (by first | exact H4.out | exact H4.out.drew : Below w3.heap.size w3 _).trans (b5.mono (by first | exact H4.out.size | exact H4.out.drew.size))
       have H5 := Lib.hid (And.intro (R3.out.1.trans (b35.mono R3.out.1.size)) (And.intro (owns_base' (Nat.le_trans R3.out.1.size (by first | exact H4.out.size | exact H4.out.drew.size)) o5) (own_belowK R3.out.2 b35)))
       clear b5 o5 l5 b35))
  have HO := Lib.hid H5.out
  obtain ⟨gx, cx, rfl, hcx, hgx0, hgx⟩ := own_blkK HO.out.2.2 (by omega)
  have hal : all.length ≤ 9223372036854775807 := by have := own_len HO.out.2.1; unfold maxLen at this; omega
  obtain ⟨d0, d1, d2, d3, d4, d5, d6⟩ := HC.out _ HO.out.1
  clear c0 c1 c2 c3 c4 c5 c6
  go_wp2
  go_loopw [50] (fun i wr => ∃ k : Nat, k ≤ all.length ∧ i = .int .i64 (k : Int) ∧ Hid (Below W2.heap.size W2 wr ∧ wr.ownsRow W2.heap.size 200 2 (.slice a5 all.length k5) all.length (flat Chg.cells all) ∧ wr.ownsRow W2.heap.size 3 1 (.slice (some ⟨gx, 0, none⟩) N cx) N (vals (applyL X0 (all.take k))))) (fun i _ => all.length - (intOf i).toNat)
  case atStart => exact ⟨0, Nat.zero_le _, rfl, Lib.hid HO.out⟩
  case round =>
    obtain ⟨k, hk, rfl, HR⟩ := hrel
    obtain ⟨c0, c1, c2, c3, c4, c5, c6⟩ := HC.out _ HR.out.1
    by_cases hlt : k < all.length
    · obtain ⟨g1, o1, rfl, hg1, e1⟩ := (row_liesK HR.out.2.1).elem Chg.len (by omega) (List.getElem?_eq_getElem hlt)
      have e1_0 := e1 0 _ rfl
      have e1_1 := e1 1 _ rfl
      rw [Nat.add_zero] at e1_0
      clear e1
      obtain ⟨x0, x1⟩ := HF.out _ (List.getElem_mem hlt)
      have HNx := Lib.hid (applyL_next X0 all k hlt)
      have hXl := HJl.out k
      generalize all[k] = x at *
      obtain ⟨xc, xv⟩ := x
      simp only at e1_0 e1_1 x0 x1
      obtain ⟨m, rfl⟩ := Int.eq_ofNat_of_zero_le x0
      have hmN : m < N := by omega
      have hmi : (m : Int) < (N : Int) := by omega
      have HP : Hid (applyL X0 (all.take (k + 1)) = (applyL X0 (all.take k)).set m xv) := Lib.hid (by
        rw [HNx.out, putC, if_pos ⟨x0, by rw [hXl]; exact hmi⟩]
        rfl)
      obtain ⟨k1, f1⟩ := owns_cell HR.out.2.2 (k := m) (x := .int .i64 ((applyL X0 (all.take k)).getD m 0)) (by simp [vals, hXl, hmN])
      generalize (applyL X0 (all.take k)).getD m 0 = y at *
      have hi1 : (k : Int) < (all.length : Int) := by omega
      have BA := Lib.hid ((Below.refl wr.heap.size wr).alloc (Nat.le_refl _) (.cells #[.int .i64 (m : Int), .int .i64 xv] 200))
      have z0 : (wr.alloc (.cells #[.int .i64 (m : Int), .int .i64 xv] 200)).cell? ⟨wr.heap.size, 0, none⟩ = some (.int .i64 (m : Int)) := by simp
      have z1 : (wr.alloc (.cells #[.int .i64 (m : Int), .int .i64 xv] 200)).cell? ⟨wr.heap.size, 1, none⟩ = some (.int .i64 xv) := by simp
      have HQ : Hid (∀ u, Below (wr.alloc (.cells #[.int .i64 (m : Int), .int .i64 xv] 200)).heap.size (wr.alloc (.cells #[.int .i64 (m : Int), .int .i64 xv] 200)) u → (u.cell? ⟨wr.heap.size, 0, none⟩ = some (.int .i64 (m : Int)) ∧ u.cell? ⟨wr.heap.size, 1, none⟩ = some (.int .i64 xv) ∧ u.cell? ⟨b1, 0, none⟩ = some (.int .i64 (H : Int)) ∧ u.cell? ⟨b1, 1, none⟩ = some (.int .i64 (L : Int)))) := Lib.hid (fun u b => by
        obtain ⟨_, _, _, _, _, h5, h6⟩ := HC.out u (HR.out.1.trans ((BA.out.trans (b.mono BA.out.size)).mono HR.out.1.size))
        exact ⟨(b.cell (cell_lt z0)).trans z0, (b.cell (cell_lt z1)).trans z1, h5, h6⟩)
      clear z0 z1 hXl HNx
      go_wp2
      generalize wr.alloc (.cells #[.int .i64 (m : Int), .int .i64 xv] 200) = wa at *
      obtain ⟨y0, y1, y2, y3⟩ := HQ.out _ (Below.refl _ _)
      go_region_held3 (fun u => u.cell? ⟨wr.heap.size, 0, none⟩ = some (.int .i64 (m : Int)) ∧ u.cell? ⟨wr.heap.size, 1, none⟩ = some (.int .i64 xv) ∧ u.cell? ⟨b1, 0, none⟩ = some (.int .i64 (H : Int)) ∧ u.cell? ⟨b1, 1, none⟩ = some (.int .i64 (L : Int))) (first
          | assumption
          | exact HQ.out _ (Below.refl _ _)
          | exact HQ.out _ (Below.refl _ _).drew
          | exact HQ.out _ H7.out) (first
        | (go_at_call 75
           refine (HGc.out _).mono ?_
           rintro e' w7 ⟨rfl, b7⟩
           have H7 := Lib.hid ((by first | exact Below.refl _ _ | exact (Below.refl _ _).drew : Below wa.heap.size wa _).trans (b7.mono (by first | exact Nat.le_refl _ | simp)))
           clear b7))
      all_goals
        clear y0 y1 y2 y3
        obtain ⟨y0, y1, y2, y3⟩ := HQ.out _ H7.out
        have B7 := Lib.hid (BA.out.trans (H7.out.mono BA.out.size))
        have hgw : gx < wr.heap.size := (HR.out.2.2.lt gx rfl).2
        have q1 : w7.cell? ⟨gx, m, none⟩ = some (.int .i64 y) := (B7.out.cell (p := ⟨gx, m, none⟩) hgw).trans k1
        have q2 : w7.frozen? ⟨gx, m, none⟩ = false := (B7.out.frozen (p := ⟨gx, m, none⟩) hgw).trans f1
        go_wp2
        refine ⟨⟨k + 1, by omega, by go_num, Lib.hid ⟨(HR.out.1.trans (B7.out.mono HR.out.1.size)).setCell (p := ⟨gx, m, none⟩) hgx0 _, ?_, ?_⟩⟩, by simp [intOf]; omega⟩
        · exact owns_setC (own_belowK HR.out.2.1 B7.out) _ (fun q => owns_off HR.out.2.1 HR.out.2.2 (by decide) _ q rfl)
        · rw [HP.out, vals, List.map_set]
          exact owns_set (own_belowK HR.out.2.2 B7.out) m _
    · obtain rfl : k = all.length := by omega
      have hn' : ¬ (all.length : Int) < (all.length : Int) := by omega
      rw [List.take_length, HJ.out] at HR
      have HD := Lib.hid (fun u (b : Below wr.heap.size wr u) => HC.out u (HR.out.1.trans (b.mono HR.out.1.size)))
      have BW := Lib.hid (R2.out.2.2.trans (HR.out.1.mono hs2))
      have hgw : gx < wr.heap.size := (HR.out.2.2.lt gx rfl).2
      have HG' := Lib.hid (HA.out.more BW.out)
      go_wp2
      go_region_held3 (fun u => u.cell? ⟨w.heap.size, 0, none⟩ = some (.int .i64 (q : Int)) ∧ u.cell? ⟨w.heap.size, 1, none⟩ = some (.int .i64 (hd : Int)) ∧ u.cell? ⟨w.heap.size, 2, none⟩ = some (.int .i64 e) ∧ u.cell? ⟨w.heap.size, 3, none⟩ = some (.int .i64 (H : Int)) ∧ u.cell? ⟨w.heap.size, 4, none⟩ = some (.int .i64 (L : Int)) ∧ u.cell? ⟨b1, 0, none⟩ = some (.int .i64 (H : Int)) ∧ u.cell? ⟨b1, 1, none⟩ = some (.int .i64 (L : Int))) (first
          | assumption
          | exact HD.out _ (Below.refl _ _)
          | exact HD.out _ (Below.refl _ _).drew
          | exact HD.out _ b8
          | exact HD.out _ H9.out.1) (first
        | (go_at_call 87
           refine (HLo.out _).mono ?_
           rintro e' w8 ⟨rfl, b8⟩
           replace b8 : Below wr.heap.size wr w8 := (by first | exact Below.refl _ _ | exact (Below.refl _ _).drew : Below wr.heap.size wr _).trans (b8.mono (by first | exact Nat.le_refl _ | simp)))
        | (go_at_call 131
           refine (HNe.out _ _ (HG'.out.below (by first | exact b8 | exact b8.drew))).mono ?_
           rintro e' w9 ⟨lq, rfl, A9, b9⟩
           have H9 := Lib.hid (And.intro ((by first | exact b8 | exact b8.drew : Below wr.heap.size wr _).trans (b9.mono (by first | exact b8.size | exact b8.drew.size))) A9)
           clear b9 A9))
      all_goals
        clear c0 c1 c2 c3 c4 c5 c6
        obtain ⟨c0, c1, c2, c3, c4, c5, c6⟩ := HD.out _ H9.out.1
        have HE := Lib.hid (fun u (b : Below w9.heap.size w9 u) => HD.out u (H9.out.1.trans (b.mono H9.out.1.size)))
        have HLX := Lib.hid (fun u (b : Below w9.heap.size w9 u) => own_cells HR.out.2.2 (H9.out.1.trans (b.mono H9.out.1.size)))
        go_wp2
        go_region_held3 (fun u => u.cell? ⟨w.heap.size, 0, none⟩ = some (.int .i64 (q : Int)) ∧ u.cell? ⟨w.heap.size, 1, none⟩ = some (.int .i64 (hd : Int)) ∧ u.cell? ⟨w.heap.size, 2, none⟩ = some (.int .i64 e) ∧ u.cell? ⟨w.heap.size, 3, none⟩ = some (.int .i64 (H : Int)) ∧ u.cell? ⟨w.heap.size, 4, none⟩ = some (.int .i64 (L : Int)) ∧ u.cell? ⟨b1, 0, none⟩ = some (.int .i64 (H : Int)) ∧ u.cell? ⟨b1, 1, none⟩ = some (.int .i64 (L : Int))) (first
            | assumption
            | exact HE.out _ (Below.refl _ _)
            | exact HE.out _ (Below.refl _ _).drew
            | exact HE.out _ H10.out.1
            | exact HE.out _ (H10.out.1.alloc H10.out.1.size _)) (first
          | (go_at_call 74
             refine (HCl.out (some ⟨gx, 0, none⟩) cx XX _ HS16.out (HLX.out _ (by first | exact Below.refl _ _ | exact (Below.refl _ _).drew))).mono ?_
             rintro e' w10 ⟨gw, cw, rfl, b10, o10⟩
             have H10 := Lib.hid (And.intro ((by first | exact Below.refl _ _ | exact (Below.refl _ _).drew : Below w9.heap.size w9 _).trans (b10.mono (by first | exact Nat.le_refl _ | simp))) (owns_base' (show w9.heap.size ≤ _ from by first | exact Nat.le_refl _ | simp) o10))
             clear b10 o10))
        all_goals
          go_wp2
          go_ret2
          have b9a : Below w9.heap.size w9 (w10.alloc (.cells #[.pointer (some ⟨p, 0, none⟩), .int .i64 (q : Int), .int .i64 (hd : Int), .int .i64 e, .int .i64 (H : Int), .int .i64 (L : Int), .pointer (some ⟨lq, 0, none⟩), .slice (some ⟨gx, 0, none⟩) N cx, .slice (some ⟨gw, 0, none⟩) N cw, .bool false] 116)) := H10.out.1.alloc H10.out.1.size _
          have z1 := BW.out.size
          have z2 := H9.out.1.size
          have z3 := H10.out.1.size
          have z4 := H10.out.2.lt gw rfl
          have hB := HB.out
          refine ⟨w10.heap.size, lq, .slice (some ⟨gx, 0, none⟩) N cx, .slice (some ⟨gw, 0, none⟩) N cw, rfl, ⟨⟨by omega, heap_alloc_last _ _, ?_, ?_, ?_, rfl, by rw [HS16.out]; omega⟩, (H9.out.2.more b9a).mono ?_, ?_⟩, BW.out.trans ((H9.out.1.trans (b9a.mono H9.out.1.size)).mono z1)⟩
          · rw [HS16.out]
            exact owns_base' (Nat.le_trans hB hs2) (own_belowK HR.out.2.2 (H9.out.1.trans (b9a.mono H9.out.1.size)))
          · rw [HS16.out]
            exact owns_base' (by omega) (H10.out.2.alloc _)
          · intro g r1 r2
            simp only [Value.ownBlock, Option.some.injEq] at r1 r2
            omega
          · intro b r
            rcases r with r | r | r | r
            · exact .inl (.inl r)
            · exact .inr (by subst r; simp; omega)
            · simp only [Value.ownBlock, Option.some.injEq] at r
              exact .inl (.inr (by omega))
            · simp only [Value.ownBlock, Option.some.injEq] at r
              exact .inr (by subst r; simp; omega)
          · intro b r g
            have := HA.out.lt b g
            rcases r with r | r | r
            · omega
            · simp only [Value.ownBlock, Option.some.injEq] at r
              omega
            · simp only [Value.ownBlock, Option.some.injEq] at r
              omega
end Go.Proofs.YtbghglkplbnnkaaGreatDoor
-- StoreMark
namespace Go.Proofs.YtbghglkplbnnkaaGreatDoor
open Go.RowKit Sec
open Go.Proofs.YtbghglkplbnnkaaGreatDoor.Bk

theorem Row5.same {u u' : World} {g : Nat} {v0 v1 v2 v3 v4 : Value} (h : Row5 u g v0 v1 v2 v3 v4) (hs : u.heap.size ≤ u'.heap.size) (hb : u'.heap[g]? = u.heap[g]?) : Row5 u' g v0 v1 v2 v3 v4 :=
  have c : ∀ o, u'.cell? ⟨g, o, none⟩ = u.cell? ⟨g, o, none⟩ := fun o => World.cell?_of_block (a := ⟨g, o, none⟩) hb
  have f : ∀ o, u'.frozen? ⟨g, o, none⟩ = u.frozen? ⟨g, o, none⟩ := fun o => World.frozen?_of_block (a := ⟨g, o, none⟩) hb
  ⟨Nat.lt_of_lt_of_le h.lt hs, (c 0).trans h.c0, (c 1).trans h.c1, (c 2).trans h.c2, (c 3).trans h.c3, (c 4).trans h.c4, (f 0).trans h.f0, (f 1).trans h.f1, (f 2).trans h.f2, (f 3).trans h.f3, (f 4).trans h.f4⟩
section
variable {B : Nat} {G : Nat → Prop} {w : World} {s p lq : Nat} {D : Dsk} {fr n hd nx ep : Int} {S : Sup} {X Y : List Int} {off : Bool} {vC vW : Value}
theorem StAt.super5 (h : StAt B G w s p lq D fr n hd nx ep S X Y off vC vW) (a b c d e : Int) :
    StAt B G (((((w.setCell ⟨s, 1, none⟩ (.int .i64 a)).setCell ⟨s, 2, none⟩ (.int .i64 b)).setCell ⟨s, 3, none⟩ (.int .i64 c)).setCell ⟨s, 4, none⟩ (.int .i64 d)).setCell ⟨s, 5, none⟩ (.int .i64 e)) s p lq D fr n hd nx ep ⟨a, b, c, d, e⟩ X Y off vC vW ∧
    Below B w (((((w.setCell ⟨s, 1, none⟩ (.int .i64 a)).setCell ⟨s, 2, none⟩ (.int .i64 b)).setCell ⟨s, 3, none⟩ (.int .i64 c)).setCell ⟨s, 4, none⟩ (.int .i64 d)).setCell ⟨s, 5, none⟩ (.int .i64 e)) ∧
    KeptG G w (((((w.setCell ⟨s, 1, none⟩ (.int .i64 a)).setCell ⟨s, 2, none⟩ (.int .i64 b)).setCell ⟨s, 3, none⟩ (.int .i64 c)).setCell ⟨s, 4, none⟩ (.int .i64 d)).setCell ⟨s, 5, none⟩ (.int .i64 e)) := by
  obtain ⟨h1, b1, k1⟩ := h.put (S' := ⟨a, S.h, S.e, S.f, S.g⟩) 1 (.int .i64 a) (off' := off) rfl
  obtain ⟨h2, b2, k2⟩ := h1.put (S' := ⟨a, b, S.e, S.f, S.g⟩) 2 (.int .i64 b) (off' := off) rfl
  obtain ⟨h3, b3, k3⟩ := h2.put (S' := ⟨a, b, c, S.f, S.g⟩) 3 (.int .i64 c) (off' := off) rfl
  obtain ⟨h4, b4, k4⟩ := h3.put (S' := ⟨a, b, c, d, S.g⟩) 4 (.int .i64 d) (off' := off) rfl
  obtain ⟨h5, b5, k5⟩ := h4.put (S' := ⟨a, b, c, d, e⟩) 5 (.int .i64 e) (off' := off) rfl
  exact ⟨h5, b1.trans (b2.trans (b3.trans (b4.trans b5))), k1.trans (k2.trans (k3.trans (k4.trans k5)))⟩
end

set_option maxRecDepth 100000 in
set_option maxHeartbeats 8000000 in
theorem mark_is {B : Nat} {G : Nat → Prop} {w : World} {s p lq : Nat} {D D1 D2 : Dsk} {fr : Int} {q hd nx : Nat} {e : Int} {H L : Nat} {X Y : List Int} {vC vW : Value}
    (h : StAt B G w s p lq D fr L hd nx e (crS q hd e H L) X Y false vC vW) (hg : 8 ≤ H ∧ H ≤ 400 ∧ 4 ≤ L ∧ L ≤ 300) (hX : X.length = 16 * pgs H) (hf : FineC X) (q' : Nat) (e' : Int) (hq' : q' = q + 1) (he' : e' = e + 1)
    (hok : supOk (crS q' nx e' H L) = true) (hw : D.waits = [] ∧ D1.waits = []) (hdd : D.deeds < 2 ^ 50 ∧ D1.deeds < 2 ^ 50)
    (e1 : layR D (pagesW q' X (3 * pgs H)) = (D1, 0)) (e2 : layR D1 [crW (crS q' nx e' H L)] = (D2, 0)) :
    Calls Tryz.prog 110 #[.pointer (some ⟨s, 0, none⟩)] w fun r w' => r = .returned .nilIface ∧ StAt B G w' s p lq D2 fr L nx nx e' (crS q' nx e' H L) X Y false vC vW ∧ Below B w w' ∧ KeptG G w w' := by
  have hp := (pgs_le hg.2.1)
  have hp1 : 1 ≤ pgs H := by unfold pgs; omega
  obtain ⟨⟨qq0, zq1⟩, ⟨qn0, qn1⟩, ⟨zq2, zq3⟩, zq4, zq5⟩ := sup_of hok
  have qq1 : (q' : Int) ≤ 900000000 := zq1
  have qe1 : e' ≤ 900000000 := zq3
  have qe0 : 0 ≤ e' := zq2
  clear qq0 zq1 qn0 qn1 zq2 zq3 zq4 zq5
  have HRi : Hid (∀ u, Calls Tryz.prog 133 #[.agg #[.int .i64 (q' : Int), .int .i64 (nx : Int), .int .i64 e', .int .i64 (H : Int), .int .i64 (L : Int)]] u fun r w' => r = .returned (.bool true) ∧ Below u.heap.size u w') := Lib.hid (fun u => by have := cright_is (crS q' nx e' H L) u; rw [hok] at this; exact this)
  have HK : Hid (∀ u, Calls Tryz.prog 105 #[.agg #[.int .i64 (q' : Int), .int .i64 (nx : Int), .int .i64 e', .int .i64 (H : Int), .int .i64 (L : Int)]] u fun r w' => r = .returned (crW (crS q' nx e' H L)).val ∧ Below u.heap.size u w') := Lib.hid (fun u => crownOf_is _ hok u)
  obtain ⟨gC, cC', hvC', hcc, _, _⟩ := own_blkK h.st.oC (by rw [hX]; omega)
  rw [hX] at hvC'
  have HPa : Hid (∀ u, StIs B u s p lq (crS q hd e H L) X Y false vC vW → Calls Tryz.prog 103 #[.agg #[.int .i64 (q' : Int), .int .i64 (nx : Int), .int .i64 e', .int .i64 (H : Int), .int .i64 (L : Int)], vC] u fun r w' => ∃ v, r = .returned v ∧ Below u.heap.size u w' ∧ w'.ownsRow u.heap.size 149 2 v (3 * pgs H) (flat Wr.cells (pagesW q' X (3 * pgs H)))) := Lib.hid (fun u hu => by
    have ho := hu.oC
    rw [hvC', hX] at ho
    have := pagesOf_is q' nx e' H L hg (by omega) gC cC' X hX (by rw [hX] at hcc; exact hcc) hf u (own_cells ho (Below.refl _ _))
    rw [hX] at this
    rw [hvC']
    exact this)
  have HL1 : Hid (∀ (G' : Nat → Prop) (u : World) (a : Option Addr) (c : Nat), AtK B G' u p D → LiesAt u a (flat Wr.cells (pagesW q' X (3 * pgs H))) → (∀ b : Addr, a = some b → G' b.block) → Calls Tryz.prog 100 #[.pointer (some ⟨p, 0, none⟩), .slice a (3 * pgs H) c] u fun r w' => ∃ v, r = .returned v ∧ ErrIs w' 0 v ∧ AtK B G' w' p D1 ∧ Below B u w' ∧ KeptG G' u w') := Lib.hid (fun G' u a c hA hl ha => by
    have m : (pagesW q' X (3 * pgs H)).length = 3 * pgs H := pagesW_len _ _ _
    have := lay_is hA a _ c hl ha (by rw [m]; omega) (by rw [m, hw.1]; simp; omega) (by rw [m]; have := hdd.1; omega) D1 0 e1
    rw [m] at this
    exact this)
  have HL2 : Hid (∀ (G' : Nat → Prop) (u : World) (a : Option Addr) (c : Nat), AtK B G' u p D1 → LiesAt u a (Wr.cells (crW (crS q' nx e' H L))) → (∀ b : Addr, a = some b → G' b.block) → Calls Tryz.prog 100 #[.pointer (some ⟨p, 0, none⟩), .slice a 1 c] u fun r w' => ∃ v, r = .returned v ∧ ErrIs w' 0 v ∧ AtK B G' w' p D2 ∧ Below B u w' ∧ KeptG G' u w') := Lib.hid (fun G' u a c hA hl ha =>
    lay_is hA a [crW (crS q' nx e' H L)] c (by rw [Bk.flat_one]; exact hl) ha (by show 1 ≤ 100000; omega) (by rw [hw.2]; show 0 + 1 + 1 < 2 ^ 40; omega) (by have := hdd.2; show D1.deeds + 1 + 2 < 2 ^ 60; omega) D2 0 e2)
  have HA := Lib.hid h
  obtain ⟨_, y1, y2, y3, y4, y5, _⟩ := h.st.cs
  have s1 : w.cell? ⟨s, 1, none⟩ = some (.int .i64 (q : Int)) := y1
  have s2 : w.cell? ⟨s, 2, none⟩ = some (.int .i64 (hd : Int)) := y2
  have s3 : w.cell? ⟨s, 3, none⟩ = some (.int .i64 e) := y3
  have s4 : w.cell? ⟨s, 4, none⟩ = some (.int .i64 (H : Int)) := y4
  have s5 : w.cell? ⟨s, 5, none⟩ = some (.int .i64 (L : Int)) := y5
  clear y1 y2 y3 y4 y5
  have t6 : (w.alloc (.cells #[.int .i64 (q : Int), .int .i64 (hd : Int), .int .i64 e, .int .i64 (H : Int), .int .i64 (L : Int)] 113)).cell? ⟨s, 6, none⟩ = some (.pointer (some ⟨lq, 0, none⟩)) := (h.st.below ((Below.refl _ _).alloc (Nat.le_refl _) _)).cs.2.2.2.2.2.2.1
  have HCut : Hid (∀ (G' : Nat → Prop) u, LogAt B G' u lq p D2 fr L hd nx e → Calls Tryz.prog 134 #[.pointer (some ⟨lq, 0, none⟩), .int .i64 e'] u fun r w' => r = .returned (.int .i64 0) ∧ LogAt B G' w' lq p D2 fr L nx nx e' ∧ Below B u w' ∧ KeptG G' u w') := Lib.hid (fun G' u hu => Cut_yes hu e' (by omega) (by omega))
  have hw1 : IntKind.i64.wrap ((q : Int) + 1) = (q' : Int) := by rw [IntKind.wrap_i64]; omega
  have hw2 : IntKind.i64.wrap (e + 1) = e' := by rw [IntKind.wrap_i64]; omega
  have HCW : Hid ((crW (crS q' nx e' H L)).val = .agg (crW (crS q' nx e' H L)).cells.toArray) := Lib.hid rfl
  have hne : s ≠ w.heap.size := by have := h.st.lt; omega
  clear h hf hok hw hdd e1 e2 hX hvC' hcc hp1
  generalize crW (crS q' nx e' H L) = cw at *
  generalize 3 * pgs H = M at *
  have BA := Lib.hid ((Below.refl w.heap.size w).alloc (Nat.le_refl _) (.cells #[.int .i64 (q : Int), .int .i64 (hd : Int), .int .i64 e, .int .i64 (H : Int), .int .i64 (L : Int)] 113))
  go_enter Tryz.func110, Tryz.ntmps110
  go_upto_region 2 with fail
  go_cut [2] (fun s2 wx => s2 = .nilIface ∧ wx = (w.alloc (.cells #[.int .i64 ((q : Int) + 1), .int .i64 (nx : Int), .int .i64 (e + 1), .int .i64 (H : Int), .int .i64 (L : Int)] 113)).drew)
  case first =>
    go_region_law (first
      | (go_simp
         go_at_call 132
         refine (Next_is (HA.out.lg.c.below (by first | exact BA.out | exact BA.out.drew))).mono ?_
         rintro r' w' ⟨rfl, rfl⟩))
    all_goals
      go_wp2_with fail
      go_meet
      exact ⟨rfl, rfl⟩
  case rest =>
  obtain ⟨rfl, hw⟩ := hcut
  clear t6 s1 s2 s3 s4 s5 hw1 hw2
  have HB := Lib.hid HA.out.le
  have H2 : Hid (StAt B (fun k => G k ∨ k = w.heap.size) wc s p lq D fr L hd nx e (crS q hd e H L) X Y false vC vW ∧ Row5 wc w.heap.size (.int .i64 (q' : Int)) (.int .i64 (nx : Int)) (.int .i64 e') (.int .i64 (H : Int)) (.int .i64 (L : Int)) ∧ Below w.heap.size w wc) := Lib.hid (by
    have hqq : (q : Int) + 1 = (q' : Int) := by omega
    rw [hqq, ← he'] at hw
    have b2 : Below w.heap.size w wc := by rw [hw]; exact ((Below.refl _ _).alloc (Nat.le_refl _) _).drew
    have rn : Row5 wc w.heap.size (.int .i64 (q' : Int)) (.int .i64 (nx : Int)) (.int .i64 e') (.int .i64 (H : Int)) (.int .i64 (L : Int)) := by rw [hw]; exact (Row5.made w _ _ _ _ _ _).below (Below.refl _ _).drew
    exact ⟨(HA.out.more b2).mono (fun k r => r.imp id (fun r => by subst r; exact ⟨Nat.le_refl _, rn.lt⟩)), rn, b2⟩)
  clear hw
  clear hne hq' he'
  generalize hgn : w.heap.size = gn at *
  have HGN := Lib.hid hgn
  clear hgn
  obtain ⟨s0, _, _, _, _, _, s6, s7, s8, s9⟩ := H2.out.1.st.cs
  obtain ⟨n0, n1, n2, n3, n4⟩ := H2.out.2.1.cells (Below.refl _ _)
  obtain ⟨ck, cb⟩ := cw
  have HK' : Hid (∀ u, Calls Tryz.prog 105 #[.agg #[.int .i64 (q' : Int), .int .i64 (nx : Int), .int .i64 e', .int .i64 (H : Int), .int .i64 (L : Int)]] u fun r w' => r = .returned (.agg #[.int .i64 ck, .string cb]) ∧ Below u.heap.size u w') := HK
  clear HK HCW
  go_wp2_with (first
    | (go_at_call 133
       refine (HRi.out _).mono ?_
       rintro r' w3 ⟨rfl, b3⟩
       have H3 := Lib.hid (And.intro (H2.out.1.below b3) (And.intro (H2.out.2.1.below b3) (H2.out.2.2.trans (b3.mono (Nat.le_of_lt H2.out.2.1.lt)))))
       clear b3))
  clear s0 s6 s7 s8 s9 n0 n1 n2 n3 n4
  have HC3 : Hid (∀ u, Below w3.heap.size w3 u → (u.cell? ⟨s, 0, none⟩ = some (.pointer (some ⟨p, 0, none⟩)) ∧ u.cell? ⟨s, 6, none⟩ = some (.pointer (some ⟨lq, 0, none⟩)) ∧ u.cell? ⟨s, 7, none⟩ = some vC ∧ u.cell? ⟨gn, 0, none⟩ = some (.int .i64 (q' : Int)) ∧ u.cell? ⟨gn, 1, none⟩ = some (.int .i64 (nx : Int)) ∧ u.cell? ⟨gn, 2, none⟩ = some (.int .i64 e') ∧ u.cell? ⟨gn, 3, none⟩ = some (.int .i64 (H : Int)) ∧ u.cell? ⟨gn, 4, none⟩ = some (.int .i64 (L : Int)))) := Lib.hid (fun u b => by
    obtain ⟨s0, _, _, _, _, _, s6, s7, _, _⟩ := (H3.out.1.st.below b).cs
    obtain ⟨n0, n1, n2, n3, n4⟩ := H3.out.2.1.cells b
    exact ⟨s0, s6, s7, n0, n1, n2, n3, n4⟩)
  obtain ⟨s0, s6, s7, n0, n1, n2, n3, n4⟩ := HC3.out _ (Below.refl _ _)
  go_region_held3 (fun u => u.cell? ⟨s, 0, none⟩ = some (.pointer (some ⟨p, 0, none⟩)) ∧ u.cell? ⟨s, 6, none⟩ = some (.pointer (some ⟨lq, 0, none⟩)) ∧ u.cell? ⟨s, 7, none⟩ = some vC ∧ u.cell? ⟨gn, 0, none⟩ = some (.int .i64 (q' : Int)) ∧ u.cell? ⟨gn, 1, none⟩ = some (.int .i64 (nx : Int)) ∧ u.cell? ⟨gn, 2, none⟩ = some (.int .i64 e') ∧ u.cell? ⟨gn, 3, none⟩ = some (.int .i64 (H : Int)) ∧ u.cell? ⟨gn, 4, none⟩ = some (.int .i64 (L : Int))) (first
      | assumption
      | exact HC3.out _ (Below.refl _ _)
      | exact HC3.out _ (Below.refl _ _).drew
      | exact HC3.out _ H4.out.1
      | exact HC5.out _ (Below.refl _ _)) (first
    | (go_at_call 103
       refine (HPa.out _ (H3.out.1.st.below (by first | exact Below.refl _ _ | exact (Below.refl _ _).drew))).mono ?_
       rintro r' w4 ⟨v4, rfl, b4, o4⟩
       obtain ⟨a4, k4, rfl, l4, q4⟩ := own_formK o4
       have b34 : Below w3.heap.size w3 w4 := (by first | exact Below.refl _ _ | exact (Below.refl _ _).drew : Below w3.heap.size w3 _).trans (b4.mono (by first | exact Nat.le_refl _ | simp))
       have H4 := Lib.hid (And.intro b34 (And.intro l4 (show ∀ b : Addr, a4 = some b → (w3.heap.size ≤ b.block ∧ b.block < w4.heap.size) from fun b hb => by
         rcases q4 with q | ⟨g, q, q2, q3⟩
         · rw [q] at hb; cases hb
         · rw [q] at hb
           obtain rfl := Option.some.inj hb
           exact ⟨by first | exact q2 | simpa using q2, q3⟩)))
       clear b4 o4 l4 q4 b34)
    | (go_at_call 100
       refine (HL1.out _ _ a4 k4 (H3.out.1.more H4.out.1).lg.d H4.out.2.1 (fun b hb => .inl (.inl (.inr (H4.out.2.2 b hb))))).mono ?_
       rintro r' w5 ⟨v5, rfl, v5e, A5, b5, k5⟩
       obtain rfl := v5e.nil
       have H5 := Lib.hid (And.intro (((H3.out.1.more H4.out.1).disk A5 k5).mono (G' := fun k => G k ∨ k = gn) (fun k r => .inl r)) (And.intro ((H3.out.2.1.below H4.out.1).same b5.size (k5 gn (.inl (.inl (.inl (.inr rfl)))))) (And.intro (((H3.out.2.2.mono HB.out).trans (H4.out.1.mono (H3.out.1.le))).trans b5) (KeptG.trans (KeptG.trans (show KeptG G w w3 from fun k g => H3.out.2.2.block k (by rw [← HGN.out]; exact HA.out.lg.d.lt k (.inl (.inl g)))) ((H3.out.1.keptG H4.out.1).mono (fun k r => .inl r))) (k5.mono (fun k r => .inl (.inl (.inl (.inl r)))))))))
       have HC5 : Hid (∀ u, Below w5.heap.size w5 u → (u.cell? ⟨s, 0, none⟩ = some (.pointer (some ⟨p, 0, none⟩)) ∧ u.cell? ⟨s, 6, none⟩ = some (.pointer (some ⟨lq, 0, none⟩)) ∧ u.cell? ⟨s, 7, none⟩ = some vC ∧ u.cell? ⟨gn, 0, none⟩ = some (.int .i64 (q' : Int)) ∧ u.cell? ⟨gn, 1, none⟩ = some (.int .i64 (nx : Int)) ∧ u.cell? ⟨gn, 2, none⟩ = some (.int .i64 e') ∧ u.cell? ⟨gn, 3, none⟩ = some (.int .i64 (H : Int)) ∧ u.cell? ⟨gn, 4, none⟩ = some (.int .i64 (L : Int)))) := Lib.hid (fun u b => by
         obtain ⟨s0, _, _, _, _, _, s6, s7, _, _⟩ := (H5.out.1.st.below b).cs
         obtain ⟨n0, n1, n2, n3, n4⟩ := H5.out.2.1.cells b
         exact ⟨s0, s6, s7, n0, n1, n2, n3, n4⟩)
       clear v5e A5 b5 k5))
  clear s0 s6 s7 n0 n1 n2 n3 n4
  obtain ⟨s0, s6, s7, n0, n1, n2, n3, n4⟩ := HC5.out _ (Below.refl _ _)
  go_wp2
  go_region_held3 (fun u => u.cell? ⟨s, 0, none⟩ = some (.pointer (some ⟨p, 0, none⟩)) ∧ u.cell? ⟨s, 6, none⟩ = some (.pointer (some ⟨lq, 0, none⟩)) ∧ u.cell? ⟨s, 7, none⟩ = some vC ∧ u.cell? ⟨gn, 0, none⟩ = some (.int .i64 (q' : Int)) ∧ u.cell? ⟨gn, 1, none⟩ = some (.int .i64 (nx : Int)) ∧ u.cell? ⟨gn, 2, none⟩ = some (.int .i64 e') ∧ u.cell? ⟨gn, 3, none⟩ = some (.int .i64 (H : Int)) ∧ u.cell? ⟨gn, 4, none⟩ = some (.int .i64 (L : Int))) (first
      | assumption
      | exact HC5.out _ (Below.refl _ _)
      | exact HC5.out _ (Below.refl _ _).drew
      | exact HC5.out _ b6
      | exact HC5.out _ (b6.alloc b6.size _)
      | exact HC8.out _ (Below.refl _ _)) (first
    | (go_at_call 105
       refine (HK'.out _).mono ?_
       rintro r' w6 ⟨rfl, b6⟩
       replace b6 : Below w5.heap.size w5 w6 := (by first | exact Below.refl _ _ | exact (Below.refl _ _).drew : Below w5.heap.size w5 _).trans (b6.mono (by first | exact Nat.le_refl _ | simp)))
    | (go_at_call 100
       have b6a : Below w5.heap.size w5 (w6.alloc (.cells #[.int .i64 ck, .string cb] 149)) := b6.alloc b6.size _
       refine (HL2.out _ _ (some ⟨w6.heap.size, 0, none⟩) 1 (H5.out.1.more b6a).lg.d (fun n v hv => ⟨_, rfl, by simp, World.news_of_block (heap_alloc_last _ _) n v hv⟩) (fun b hb => .inl (.inl (.inr (by
         obtain rfl := Option.some.inj hb
         exact ⟨b6.size, by simp⟩))))).mono ?_
       rintro r' w8 ⟨v8, rfl, v8e, A8, b8, k8⟩
       obtain rfl := v8e.nil
       have H8 := Lib.hid (And.intro (((H5.out.1.more b6a).disk A8 k8).mono (G' := fun k => G k ∨ k = gn) (fun k r => .inl r)) (And.intro ((H5.out.2.1.below b6a).same b8.size (k8 gn (.inl (.inl (.inl (.inr rfl)))))) (And.intro ((b6a.mono H5.out.1.le).trans b8) (KeptG.trans ((H5.out.1.keptG b6a).mono (fun k r => .inl r)) (k8.mono (fun k r => .inl (.inl (.inl (.inl r)))))))))
       have HC8 : Hid (∀ u, Below w8.heap.size w8 u → (u.cell? ⟨s, 0, none⟩ = some (.pointer (some ⟨p, 0, none⟩)) ∧ u.cell? ⟨s, 6, none⟩ = some (.pointer (some ⟨lq, 0, none⟩)) ∧ u.cell? ⟨s, 7, none⟩ = some vC ∧ u.cell? ⟨gn, 0, none⟩ = some (.int .i64 (q' : Int)) ∧ u.cell? ⟨gn, 1, none⟩ = some (.int .i64 (nx : Int)) ∧ u.cell? ⟨gn, 2, none⟩ = some (.int .i64 e') ∧ u.cell? ⟨gn, 3, none⟩ = some (.int .i64 (H : Int)) ∧ u.cell? ⟨gn, 4, none⟩ = some (.int .i64 (L : Int)))) := Lib.hid (fun u b => by
         obtain ⟨s0, _, _, _, _, _, s6, s7, _, _⟩ := (H8.out.1.st.below b).cs
         obtain ⟨n0, n1, n2, n3, n4⟩ := H8.out.2.1.cells b
         exact ⟨s0, s6, s7, n0, n1, n2, n3, n4⟩)
       clear v8e A8 b8 k8 b6a))
  clear s0 s6 s7 n0 n1 n2 n3 n4
  obtain ⟨s0, s6, s7, n0, n1, n2, n3, n4⟩ := HC8.out _ (Below.refl _ _)
  obtain ⟨_, s1, s2, s3, s4, s5, _⟩ := H8.out.1.st.cs
  have f1 := H8.out.1.st.frozen 1
  have f2 := H8.out.1.st.frozen 2
  have f3 := H8.out.1.st.frozen 3
  have f4 := H8.out.1.st.frozen 4
  have f5 := H8.out.1.st.frozen 5
  go_wp2
  clear s0 s1 s2 s3 s4 s5 s6 s7 f1 f2 f3 f4 f5 n0 n1 n2 n3 n4
  have HS5 := H8.out.1.super5 (q' : Int) (nx : Int) e' (H : Int) (L : Int)
  have H9 : Hid (StAt B (fun k => G k ∨ k = gn) (((((w8.setCell ⟨s, 1, none⟩ (.int .i64 (q' : Int))).setCell ⟨s, 2, none⟩ (.int .i64 (nx : Int))).setCell ⟨s, 3, none⟩ (.int .i64 e')).setCell ⟨s, 4, none⟩ (.int .i64 (H : Int))).setCell ⟨s, 5, none⟩ (.int .i64 (L : Int))) s p lq D2 fr L hd nx e (crS q' nx e' H L) X Y false vC vW ∧ Row5 (((((w8.setCell ⟨s, 1, none⟩ (.int .i64 (q' : Int))).setCell ⟨s, 2, none⟩ (.int .i64 (nx : Int))).setCell ⟨s, 3, none⟩ (.int .i64 e')).setCell ⟨s, 4, none⟩ (.int .i64 (H : Int))).setCell ⟨s, 5, none⟩ (.int .i64 (L : Int))) gn (.int .i64 (q' : Int)) (.int .i64 (nx : Int)) (.int .i64 e') (.int .i64 (H : Int)) (.int .i64 (L : Int)) ∧ Below B w8 (((((w8.setCell ⟨s, 1, none⟩ (.int .i64 (q' : Int))).setCell ⟨s, 2, none⟩ (.int .i64 (nx : Int))).setCell ⟨s, 3, none⟩ (.int .i64 e')).setCell ⟨s, 4, none⟩ (.int .i64 (H : Int))).setCell ⟨s, 5, none⟩ (.int .i64 (L : Int))) ∧ KeptG G w8 (((((w8.setCell ⟨s, 1, none⟩ (.int .i64 (q' : Int))).setCell ⟨s, 2, none⟩ (.int .i64 (nx : Int))).setCell ⟨s, 3, none⟩ (.int .i64 e')).setCell ⟨s, 4, none⟩ (.int .i64 (H : Int))).setCell ⟨s, 5, none⟩ (.int .i64 (L : Int)))) := Lib.hid ⟨HS5.1, H8.out.2.1.same HS5.2.1.size (HS5.2.2 gn (.inr rfl)), HS5.2.1, HS5.2.2.mono (fun k r => .inl r)⟩
  clear HS5
  generalize (((((w8.setCell ⟨s, 1, none⟩ (.int .i64 (q' : Int))).setCell ⟨s, 2, none⟩ (.int .i64 (nx : Int))).setCell ⟨s, 3, none⟩ (.int .i64 e')).setCell ⟨s, 4, none⟩ (.int .i64 (H : Int))).setCell ⟨s, 5, none⟩ (.int .i64 (L : Int))) = w9 at *
  have HC9 : Hid (∀ u, Below w9.heap.size w9 u → (u.cell? ⟨s, 0, none⟩ = some (.pointer (some ⟨p, 0, none⟩)) ∧ u.cell? ⟨s, 6, none⟩ = some (.pointer (some ⟨lq, 0, none⟩)) ∧ u.cell? ⟨s, 7, none⟩ = some vC ∧ u.cell? ⟨gn, 0, none⟩ = some (.int .i64 (q' : Int)) ∧ u.cell? ⟨gn, 1, none⟩ = some (.int .i64 (nx : Int)) ∧ u.cell? ⟨gn, 2, none⟩ = some (.int .i64 e') ∧ u.cell? ⟨gn, 3, none⟩ = some (.int .i64 (H : Int)) ∧ u.cell? ⟨gn, 4, none⟩ = some (.int .i64 (L : Int)))) := Lib.hid (fun u b => by
         obtain ⟨s0, _, _, _, _, _, s6, s7, _, _⟩ := (H9.out.1.st.below b).cs
         obtain ⟨n0, n1, n2, n3, n4⟩ := H9.out.2.1.cells b
         exact ⟨s0, s6, s7, n0, n1, n2, n3, n4⟩)
  obtain ⟨s0, s6, s7, n0, n1, n2, n3, n4⟩ := HC9.out _ (Below.refl _ _)
  go_region_held3 (fun u => u.cell? ⟨s, 0, none⟩ = some (.pointer (some ⟨p, 0, none⟩)) ∧ u.cell? ⟨s, 6, none⟩ = some (.pointer (some ⟨lq, 0, none⟩)) ∧ u.cell? ⟨s, 7, none⟩ = some vC ∧ u.cell? ⟨gn, 0, none⟩ = some (.int .i64 (q' : Int)) ∧ u.cell? ⟨gn, 1, none⟩ = some (.int .i64 (nx : Int)) ∧ u.cell? ⟨gn, 2, none⟩ = some (.int .i64 e') ∧ u.cell? ⟨gn, 3, none⟩ = some (.int .i64 (H : Int)) ∧ u.cell? ⟨gn, 4, none⟩ = some (.int .i64 (L : Int))) (first
      | assumption
      | exact HC9.out _ (Below.refl _ _)
      | exact HC9.out _ (Below.refl _ _).drew
      | exact HC10.out _ (Below.refl _ _)
      | exact HC10.out _ (Below.refl _ _).drew
      | exact HC10.out _ H11.out
      | exact HC10.out _ H12.out) (first
    | (go_at_call 134
       refine (HCut.out _ _ (by first | exact H9.out.1.lg | exact H9.out.1.lg.drew)).mono ?_
       rintro r' w10 ⟨rfl, A10, b10, k10⟩
       have h10 := (by first | exact H9.out.1.log A10 k10 | exact (H9.out.1.below (Below.refl _ _).drew).log A10 k10 : StAt B (fun k => G k ∨ k = gn) w10 s p lq D2 fr L nx nx e' (crS q' nx e' H L) X Y false vC vW)
       have b10' : Below B w9 w10 := by first | exact b10 | exact ((Below.refl B w9).drew).trans b10
       have H10 := Lib.hid (And.intro h10 (And.intro (H9.out.2.1.same b10'.size (k10 gn (.inl (.inr rfl)))) (And.intro b10' (show KeptG G w9 w10 from k10.mono (fun k r => .inl (.inl r))))))
       have HC10 : Hid (∀ u, Below w10.heap.size w10 u → (u.cell? ⟨s, 0, none⟩ = some (.pointer (some ⟨p, 0, none⟩)) ∧ u.cell? ⟨s, 6, none⟩ = some (.pointer (some ⟨lq, 0, none⟩)) ∧ u.cell? ⟨s, 7, none⟩ = some vC ∧ u.cell? ⟨gn, 0, none⟩ = some (.int .i64 (q' : Int)) ∧ u.cell? ⟨gn, 1, none⟩ = some (.int .i64 (nx : Int)) ∧ u.cell? ⟨gn, 2, none⟩ = some (.int .i64 e') ∧ u.cell? ⟨gn, 3, none⟩ = some (.int .i64 (H : Int)) ∧ u.cell? ⟨gn, 4, none⟩ = some (.int .i64 (L : Int)))) := Lib.hid (fun u b => by
         obtain ⟨s0, _, _, _, _, _, s6, s7, _, _⟩ := (H10.out.1.st.below b).cs
         obtain ⟨n0, n1, n2, n3, n4⟩ := H10.out.2.1.cells b
         exact ⟨s0, s6, s7, n0, n1, n2, n3, n4⟩)
       clear A10 b10 k10 h10 b10')
    | (go_at_call 65
       refine (new_err 0 (q' : Int) _).mono ?_
       rintro r' w11 ⟨v11, rfl, b11, v11e⟩
       obtain rfl := v11e.nil
       have H11 := Lib.hid ((by first | exact Below.refl _ _ | exact (Below.refl _ _).drew : Below w10.heap.size w10 _).trans (b11.mono (by first | exact Nat.le_refl _ | simp)))
       clear b11 v11e)
    | (go_at_call 64
       refine (in_err 0 .nilIface _ _ (errNil _)).mono ?_
       rintro r' w12 ⟨v12, rfl, b12, v12e⟩
       obtain rfl := v12e.nil
       have H12 := Lib.hid ((by first | exact H11.out | exact H11.out.drew : Below w10.heap.size w10 _).trans (b12.mono (by first | exact H11.out.size | exact H11.out.drew.size)))
       clear b12 v12e))
  all_goals
    go_wp2
    go_ret
    exact ⟨rfl, (H10.out.1.below H12.out).mono (fun k r => .inl r), H5.out.2.2.1.trans (H8.out.2.2.1.trans (H9.out.2.2.1.trans (H10.out.2.2.1.trans (H12.out.mono H10.out.1.le)))), KeptG.trans H5.out.2.2.2 (KeptG.trans H8.out.2.2.2 (KeptG.trans H9.out.2.2.2 (KeptG.trans H10.out.2.2.2 ((H10.out.1.keptG H12.out).mono (fun k r => .inl r)))))⟩
end Go.Proofs.YtbghglkplbnnkaaGreatDoor
-- StoreOpen
namespace Go.Proofs.YtbghglkplbnnkaaGreatDoor
open Go.RowKit Sec
open Go.Proofs.YtbghglkplbnnkaaGreatDoor.Bk

theorem crB_get {S : Sup} (h : supOk S = true) : cgetS (crB S) = S := by
  obtain ⟨m1, m2⟩ := cr_put h
  rw [cgetS_yes m1, m2]
section
variable {B : Nat} {G : Nat → Prop} {w : World} {p : Nat} {D : Dsk} {H L q hd nx : Nat} {e : Int} {K : Nat} {C : List Int}
theorem On.super (o : On D H L q hd nx e K C) (h : AtK B G w p D) (hq : q < 900000000) :
    Calls Tryz.prog 108 #[.pointer (some ⟨p, 0, none⟩)] w fun r w' => r = .returned (.tuple #[.agg #[.int .i64 (q : Int), .int .i64 (hd : Int), .int .i64 e, .int .i64 (H : Int), .int .i64 (L : Int)], .nilIface]) ∧ Below w.heap.size w w' := by
  have hm := o.many
  obtain ⟨C0, all, g, _, _, _⟩ := o.on
  have hl0 : 0 < D.now.length := by omega
  have hl1 : 1 < D.now.length := by omega
  have s0 := List.getElem?_eq_getElem hl0
  have s1 := List.getElem?_eq_getElem hl1
  obtain ⟨i0, i1, i2, _⟩ := g.newer s0 s1
  have hsz := h.shape.2.2.1
  have z0 := hsz _ (List.getElem_mem hl0)
  have z1 := hsz _ (List.getElem_mem hl1)
  have hq1 := g.q1
  have hme := g.me
  obtain ⟨hd', e', o1, o2⟩ := g.other
  rcases Nat.mod_two_eq_zero_or_one q with r | r
  · rw [r, s0] at hme
    rw [show (q + 1) % 2 = 1 by omega, s1] at o1
    have ca : cgetS D.now[0] = ⟨(q : Int), (hd : Int), e, (H : Int), (L : Int)⟩ := by rw [Option.some.inj hme]; exact crB_get g.ok
    have cb : cgetS D.now[1] = ⟨((q - 1 : Nat) : Int), (hd' : Int), e', (H : Int), (L : Int)⟩ := by rw [Option.some.inj o1]; exact crB_get o2
    exact superOf_is h o.st.on _ _ s0 s1 _ _ _ _ _ _ _ _ _ H L i0 i1 ca cb i2 (by omega) (by omega) ⟨by omega, by omega⟩ ⟨by omega, by omega⟩ (.inl (by omega)) o.ge hm ⟨by rw [z0]; unfold maxLen; omega, by rw [z1]; unfold maxLen; omega⟩
  · rw [r, s1] at hme
    rw [show (q + 1) % 2 = 0 by omega, s0] at o1
    have cb : cgetS D.now[1] = ⟨(q : Int), (hd : Int), e, (H : Int), (L : Int)⟩ := by rw [Option.some.inj hme]; exact crB_get g.ok
    have ca : cgetS D.now[0] = ⟨((q - 1 : Nat) : Int), (hd' : Int), e', (H : Int), (L : Int)⟩ := by rw [Option.some.inj o1]; exact crB_get o2
    exact superOf_is h o.st.on _ _ s0 s1 _ _ _ _ _ _ _ _ _ H L i0 i1 ca cb i2 (by omega) (by omega) ⟨by omega, by omega⟩ ⟨by omega, by omega⟩ (.inr (by omega)) o.ge hm ⟨by rw [z0]; unfold maxLen; omega, by rw [z1]; unfold maxLen; omega⟩
theorem On.store (o : On D H L q hd nx e K C) (h : AtK B G w p D) (hq : q < 900000000) (hn : nx < 900000000) (e0 : 0 ≤ e) (e1 : e < 900000000) :
    Calls Tryz.prog 109 #[.pointer (some ⟨p, 0, none⟩), .agg #[.int .i64 (q : Int), .int .i64 (hd : Int), .int .i64 e, .int .i64 (H : Int), .int .i64 (L : Int)]] w fun r w' => ∃ s lq vC vW, r = .returned (.tuple #[.pointer (some ⟨s, 0, none⟩), .nilIface]) ∧ StAt B G w' s p lq D ((2 + 6 * pgs H : Nat) : Int) L hd nx e (crS q hd e H L) (joinP C (pgs H)) (joinP C (pgs H)) false vC vW ∧ Below w.heap.size w w' := by
  obtain ⟨g1, g2, _, _⟩ := o.ge
  obtain ⟨C0, all, g, l, rfl, f⟩ := o.on
  have hp := (pgs_le g2).1
  exact storeOf_is h o.st.on q hd nx e H L o.ge (by omega) hn e0 e1 C0 g.cl (fun no hno => g.page (by omega) (by omega) hno) all l f
theorem On.marked {s lq : Nat} {Y : List Int} {vC vW : Value} (o : On D H L q hd nx e K C) (hlit : D.lit = false) (h : StAt B G w s p lq D ((2 + 6 * pgs H : Nat) : Int) L hd nx e (crS q hd e H L) (joinP C (pgs H)) Y false vC vW) (hK : K < 2 ^ 40) (hq : q < 900000000) (hn : nx < 900000000) (e0 : 0 ≤ e) (e1 : e < 900000000) :
    Calls Tryz.prog 110 #[.pointer (some ⟨s, 0, none⟩)] w fun r w' => r = .returned .nilIface ∧ ∃ D', StAt B G w' s p lq D' ((2 + 6 * pgs H : Nat) : Int) L nx nx (e + 1) (crS (q + 1) nx (e + 1) H L) (joinP C (pgs H)) Y false vC vW ∧ Below B w w' ∧ KeptG G w w' ∧ On D' H L (q + 1) nx nx (e + 1) (K + 3 * pgs H + 3) C ∧ D'.lit = false := by
  have hfin := o.fine
  have hlen := o.len
  have hm := o.many
  obtain ⟨g1, g2, _, _⟩ := o.ge
  obtain ⟨hp, hp2⟩ := pgs_le g2
  obtain ⟨hok, D1, D2, a1, a2, a3, a4⟩ := o.mark hlit hq (by omega) e0 e1
  obtain ⟨Dx, x1, x2, _⟩ := layR_calm o.st hlit (pagesW_fits (v := q + 1) hfin (P := pgs H) (by omega) (by omega) (by omega : 2 + 6 * pgs H ≤ D.now.length))
  rw [a1] at x1
  obtain rfl : D1 = Dx := (Prod.mk.inj x1).1
  have d0 := o.st.deeds
  have d1 := x2.deeds
  rw [pagesW_len] at d1
  rw [← pagesW_join (P := pgs H) (by omega : C.length ≤ 16 * pgs H)] at a1
  refine (mark_is h o.ge (joinP_len _ _) (joinP_fine hfin) (q + 1) (e + 1) rfl rfl hok ⟨o.st.waits, x2.waits⟩ ⟨by omega, by omega⟩ a1 a2).mono fun r w' ⟨he, h1, h2, h3⟩ => ⟨he, D2, h1, h2, h3, a3, a4⟩
set_option maxRecDepth 100000 in
set_option maxHeartbeats 2000000 in
theorem Open_ok (o : On D H L q hd nx e K C) (hlit : D.lit = false) (h : AtK B G w p D) (hK : K < 2 ^ 40) (hq : q < 900000000) (hn : nx < 900000000) (e0 : 0 ≤ e) (e1 : e < 900000000) :
    Calls Tryz.prog 90 #[.pointer (some ⟨p, 0, none⟩)] w fun r w' => ∃ s lq vC vW D', r = .returned (.tuple #[.pointer (some ⟨s, 0, none⟩), .nilIface]) ∧ StAt B G w' s p lq D' ((2 + 6 * pgs H : Nat) : Int) L nx nx (e + 1) (crS (q + 1) nx (e + 1) H L) (joinP C (pgs H)) (joinP C (pgs H)) false vC vW ∧ Below B w w' ∧ KeptG G w w' ∧ On D' H L (q + 1) nx nx (e + 1) (K + 3 * pgs H + 3) C ∧ D'.lit = false := by
  have HO := Lib.hid (fun u (hu : AtK B G u p D) => On_k hu)
  rw [o.st.on] at HO
  have HS := Lib.hid (fun u (hu : AtK B G u p D) => o.super hu hq)
  have HT := Lib.hid (fun u (hu : AtK B G u p D) => o.store hu hq hn e0 e1)
  have HM := Lib.hid (fun (s lq : Nat) (vC vW : Value) u (hu : StAt B G u s p lq D ((2 + 6 * pgs H : Nat) : Int) L hd nx e (crS q hd e H L) (joinP C (pgs H)) (joinP C (pgs H)) false vC vW) => o.marked hlit hu hK hq hn e0 e1)
  have HA := Lib.hid h
  clear h hlit hK hq hn e0 e1 o
  go_enter Tryz.func90, Tryz.ntmps90
  go_wp2_with (first
    | (go_at_call 106
       refine (HO.out _ HA.out).mono ?_
       rintro r' w' ⟨rfl, rfl⟩)
    | (go_at_call 108
       refine (HS.out _ HA.out).mono ?_
       rintro r' w1 ⟨rfl, b1⟩
       have H1 := Lib.hid (b1.alloc b1.size (.cells #[.int .i64 (q : Int), .int .i64 (hd : Int), .int .i64 e, .int .i64 (H : Int), .int .i64 (L : Int)] 113))
       clear b1)
    | (go_at_call 109
       refine (HT.out _ (HA.out.below H1.out)).mono ?_
       rintro r' w2 ⟨s, lq, vC, vW, rfl, A2, b2⟩
       have H2 := Lib.hid (And.intro A2 (H1.out.trans (b2.mono H1.out.size)))
       clear A2 b2)
    | (go_at_call 110
       refine (HM.out s lq vC vW _ H2.out.1).mono ?_
       rintro r' w3 ⟨rfl, D', A3, b3, k3, o3, l3⟩
       have H3 := Lib.hid (And.intro A3 (And.intro ((H2.out.2.mono HA.out.le).trans b3) (And.intro (KeptG.trans (KeptG.below HA.out H2.out.2) k3) (And.intro o3 l3))))
       clear A3 b3 k3 o3 l3))
  go_ret2
  exact ⟨s, lq, vC, vW, D', rfl, H3.out⟩
set_option maxRecDepth 100000 in
set_option maxHeartbeats 1000000 in
theorem Open_is (o : On D H L q hd nx e K C) (hlit : D.lit = false) (h : AtK B G w p D) (hK : K < 2 ^ 40) (hq : q < 900000000) (hn : nx < 900000000) (e0 : 0 ≤ e) (e1 : e < 900000000) :
    Calls Tryz.prog 63 #[.pointer (some ⟨p, 0, none⟩)] w fun r w' => ∃ s lq vC vW D', r = .returned (.tuple #[.pointer (some ⟨s, 0, none⟩), .int .i64 0]) ∧ StAt B G w' s p lq D' ((2 + 6 * pgs H : Nat) : Int) L nx nx (e + 1) (crS (q + 1) nx (e + 1) H L) (joinP C (pgs H)) (joinP C (pgs H)) false vC vW ∧ Below B w w' ∧ KeptG G w w' ∧ On D' H L (q + 1) nx nx (e + 1) (K + 3 * pgs H + 3) C ∧ D'.lit = false := by
  have HO := Lib.hid (Open_ok o hlit h hK hq hn e0 e1)
  clear h hlit hK hq hn e0 e1 o
  go_enter Tryz.func63, Tryz.ntmps63
  go_wp2_with (go_at_call 90
               refine HO.out.mono ?_
               rintro r' w1 ⟨s, lq, vC, vW, D', rfl, h1⟩
               have H1 := Lib.hid h1
               clear h1)
  go_ret2
  exact ⟨s, lq, vC, vW, D', rfl, H1.out⟩
end
end Go.Proofs.YtbghglkplbnnkaaGreatDoor
