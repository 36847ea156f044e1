/- PageTells' walk (pre raw-spoilt pad-spoilt). -/
import Derived.Test.YtgmjphekfhiapaaPageWrap
namespace Go.Proofs.Ytgmjphekfhiapaa
open Go.RowKit
open Go.Proofs.Ytgmjphekfhiapaa.Bk

theorem spoil_at (at_ : Int) : ∃ K : Nat, K < 96 ∧ (at_.tmod 96 + 96) % 96 = (K : Int) ∧ (at_.tmod 96 + 96).tmod 96 = (K : Int) := by
  have h0 := Int.lt_tmod_of_pos at_ (b := 96) (by omega)
  have h3 := Int.emod_nonneg (at_.tmod 96 + 96) (b := 96) (by omega)
  have h4 := Int.emod_lt_of_pos (at_.tmod 96 + 96) (b := 96) (by omega)
  have h5 := Int.tmod_eq_emod_of_nonneg (a := at_.tmod 96 + 96) (b := 96) (by omega)
  exact ⟨((at_.tmod 96 + 96) % 96).toNat, by omega, by omega, by omega⟩
theorem spoil_q (K : Nat) (h : K < 96) : ∃ Q : Nat, Q < 3 ∧ (K : Int) / 32 = (Q : Int) ∧ (K : Int).tdiv 32 = (Q : Int) := by
  have := Int.tdiv_eq_ediv_of_nonneg (a := (K : Int)) (b := 32) (by omega)
  exact ⟨K / 32, by omega, by omega, by omega⟩
theorem spoil_r (K : Nat) : ∃ R : Nat, R < 32 ∧ (K : Int) % 32 = (R : Int) ∧ (K : Int).tmod 32 = (R : Int) := by
  have := Int.tmod_eq_emod_of_nonneg (a := (K : Int)) (b := 32) (by omega)
  exact ⟨K % 32, by omega, by omega, by omega⟩
set_option maxRecDepth 100000 in
set_option maxHeartbeats 8000000 in
theorem Tells_raw_spoilt (no v most u at_ cb : Int) (hcb0 : 0 ≤ cb) (hcb1 : cb < 256) (a3 a4 : Option Addr) (la lb : List Int) (c3 c4 : Nat) (w : World) (ha : LiesAt w a3 (vals la)) (hb : LiesAt w a4 (vals lb)) (h3 : la.length ≤ 30) (h4 : lb.length ≤ 30) (ok : pgOk no v la = true) (sp : Int) (hs1 : (sp == 0) = false) (hs2 : (sp != 0) = true) :
    Calls Try.prog 3 #[.int .i64 no, .int .i64 v, .int .i64 most, .slice a3 la.length c3, .slice a4 lb.length c4, .int .i64 u, .bool true, .int .i64 sp, .int .i64 at_, .int .u8 cb] w fun e w' => e = .returned (.bool true) ∧ Below w.heap.size w w' := by
  have hR : Hid (Rows w w w.heap.size []) := Lib.hid ⟨Below.refl _ _, Nat.le_refl _, fun r hr => by simp at hr⟩
  have HV := Lib.hid (fun z => alive_is z)
  have hi3 : (la.length : Int) ≤ 30 := by omega
  have hi4 : (lb.length : Int) ≤ 30 := by omega
  obtain ⟨l1, hl1⟩ : ∃ l1, l1 = la := ⟨_, rfl⟩
  obtain ⟨m1, hm1⟩ : ∃ m1, m1 = lb := ⟨_, rfl⟩
  rw [← hl1] at ok
  have L1 : Hid (l1.length = la.length) := Lib.hid (by rw [hl1])
  have M1 : Hid (m1.length = lb.length) := Lib.hid (by rw [hm1])
  have hA : Hid (KeptI w w a3 l1) := Lib.hid (by rw [hl1]; exact KeptI.came ha (Below.refl _ _))
  have hM : Hid (KeptI w w a4 m1) := Lib.hid (by rw [hm1]; exact KeptI.came hb (Below.refl _ _))
  have HL := Lib.hid (fun (a : Option Addr) (c : Nat) z (q : LiesAt z a (vals l1)) => lentI a l1 la.length c z L1.out (by omega) q)
  obtain ⟨A, hAe⟩ : ∃ A, pgL no v l1 = A := ⟨_, rfl⟩
  obtain ⟨B, hBe⟩ : ∃ B, pgL no u m1 = B := ⟨_, rfl⟩
  obtain ⟨kB, hkB⟩ : ∃ kB, pgOk no u m1 = kB := ⟨_, rfl⟩
  obtain ⟨nB, hnB⟩ : ∃ nB, B.length = nB := ⟨_, rfl⟩
  have hnB3 : nB ≤ 3 := by rw [← hnB, ← hBe]; unfold pgL; split <;> simp [parts]
  have LB := Lib.hid hnB
  have LA : Hid (A.length = 3) := Lib.hid (by rw [← hAe, pgL_yes ok]; rfl)
  have HP1 := Lib.hid (fun (a : Option Addr) (c : Nat) z (q : LiesAt z a (vals l1)) => wpput_is no v a l1 la.length c z L1.out (by omega) q true ok A hAe 3 LA.out)
  have HP2 := Lib.hid (fun (a : Option Addr) (c : Nat) z (q : LiesAt z a (vals m1)) => wpput_is no u a m1 lb.length c z M1.out (by omega) q kB hkB B hBe nB LB.out)
  have HR1 := Lib.hid (fun (a : Option Addr) (c : Nat) z (q : LiesAt z a (vals l1)) => wrpage_is no v a l1 la.length c z L1.out (by omega) q true ok A hAe 3 LA.out)
  have HR2 := Lib.hid (fun (a : Option Addr) (c : Nat) z (q : LiesAt z a (vals m1)) => wrpage_is no u a m1 lb.length c z M1.out (by omega) q kB hkB B hBe nB LB.out)
  obtain ⟨i0, hi, hz0, hz1, hz2⟩ := sl_info pg_strInfo
  have HI := Lib.hid (And.intro hi (And.intro hz0 (And.intro hz1 hz2)))
  clear hi hz0 hz1 hz2
  have ht0 : -96 < at_.tmod 96 := Int.lt_tmod_of_pos at_ (b := 96) (by omega)
  have ht1 : at_.tmod 96 < 96 := Int.tmod_lt_of_pos at_ (by omega)
  obtain ⟨K, hK96, hk1, hk2⟩ := spoil_at at_
  obtain ⟨Q, hQ, hq1, hq2⟩ := spoil_q K hK96
  obtain ⟨R, hR32, hr1, hr2⟩ := spoil_r K
  have hKi : (K : Int) < 96 := by omega
  have hQi : (Q : Int) < 3 := by omega
  have hRi : (R : Int) < 32 := by omega
  have hqA : Q < A.length := by rw [LA.out]; exact hQ
  obtain ⟨pk, hpk⟩ : ∃ pk, A[Q]? = some pk := ⟨_, List.getElem?_eq_getElem hqA⟩
  have HPK : Hid ((txts A)[Q]? = some (.string pk)) := Lib.hid (by simp [txts, hpk])
  have HZ : Hid (pk.size = 32) := Lib.hid (by
    have h1 := parts_size _ (pgB_size no v l1 (pg_any ok).2)
    rw [← pgL_yes ok, hAe] at h1
    have h2 := List.any_eq_false.1 h1 pk (List.mem_of_getElem? hpk)
    simpa [outT] using h2)
  obtain ⟨d8, hd8⟩ : ∃ d8 : UInt8, (d8.toNat : Int) = cb := ⟨UInt8.ofNat cb.toNat, by rw [UInt8.toNat_ofNat']; omega⟩
  have HD8 := Lib.hid (congrArg (Value.int .u8) hd8)
  obtain ⟨t8, ht8⟩ : ∃ t8 : ByteArray, (⟨(pk.data.toList.set R d8).toArray⟩ : ByteArray) = t8 := ⟨_, rfl⟩
  have HT8 := Lib.hid ht8
  obtain ⟨PP, hPP⟩ : ∃ PP, A.set Q t8 = PP := ⟨_, rfl⟩
  have HP8 : Hid ((txts A).set Q (.string t8) = txts PP) := Lib.hid (by rw [← hPP]; simp [txts])
  have LP : Hid (PP.length = 3) := Lib.hid (by rw [← hPP, List.length_set]; exact LA.out)
  obtain ⟨gn, hgn⟩ : ∃ x, getN PP = x := ⟨_, rfl⟩
  obtain ⟨gv, hgv⟩ : ∃ x, getV PP = x := ⟨_, rfl⟩
  obtain ⟨gk, hgk⟩ : ∃ x, pgIs PP = x := ⟨_, rfl⟩
  obtain ⟨gc, hgc⟩ : ∃ x, getC PP = x := ⟨_, rfl⟩
  obtain ⟨ke, hke⟩ : ∃ x, atIs no most PP = x := ⟨_, rfl⟩
  obtain ⟨ge, hge⟩ : ∃ x, atC no most PP = x := ⟨_, rfl⟩
  obtain ⟨kf, hkf⟩ : ∃ x, atIs no u B = x := ⟨_, rfl⟩
  obtain ⟨gf, hgf⟩ : ∃ x, atC no u B = x := ⟨_, rfl⟩
  have S1 : Hid (gc.length ≤ 16) := Lib.hid (by rw [← hgc]; exact getC_small _)
  have S2 : Hid (ge.length ≤ 16) := Lib.hid (by rw [← hge]; exact atC_small _ _ _)
  have S3 : Hid (gf.length ≤ 16) := Lib.hid (by rw [← hgf]; exact atC_small _ _ _)
  have HG := Lib.hid (fun (a : Option Addr) (c b : Nat) z (q : z.ownsRow b 9 1 (.slice a 3 c) 3 (txts PP)) => wpget_is a PP 3 c b z LP.out (by omega) q gn gv gk gc hgn hgv hgk hgc)
  have HD := Lib.hid (fun (a : Option Addr) (c b : Nat) z (q : z.ownsRow b 9 1 (.slice a 3 c) 3 (txts PP)) => wrpaged_is a PP 3 c b z LP.out (by omega) q gn gv gk gc hgn hgv hgk hgc)
  have HE := Lib.hid (fun (a : Option Addr) (c b : Nat) z (q : z.ownsRow b 9 1 (.slice a 3 c) 3 (txts PP)) => wpat_is no most a PP 3 c b z LP.out (by omega) q ke ge hke hge)
  have HE2 := Lib.hid (fun (a : Option Addr) (c b : Nat) z (q : z.ownsRow b 9 1 (.slice a 3 c) 3 (txts PP)) => wrat_is no most a PP 3 c b z LP.out (by omega) q ke ge hke hge)
  have HF := Lib.hid (fun (a : Option Addr) (c b : Nat) z (q : z.ownsRow b 9 1 (.slice a nB c) nB (txts B)) => wpat_is no u a B nB c b z LB.out (by omega) q kf gf hkf hgf)
  have HF2 := Lib.hid (fun (a : Option Addr) (c b : Nat) z (q : z.ownsRow b 9 1 (.slice a nB c) nB (txts B)) => wrat_is no u a B nB c b z LB.out (by omega) q kf gf hkf hgf)
  clear ha hb ok hAe hBe hkB hnB hgn hgv hgk hgc hke hge hkf hgf hpk hd8 ht8 hPP hqA
  clear hl1 hm1
  go_enter Try.func3, Try.ntmps3
  go_wp2_with (first
    | (go_at_call 4
       refine (HV.out _).mono ?_
       rintro e w1 ⟨rfl, b1⟩
       replace hR := Lib.hid (hR.out.next b1)
       try replace hA := Lib.hid (hA.out.next b1)
       try replace hM := Lib.hid (hM.out.next b1)
       try replace hK := Lib.hid (hK.out.next b1)
       clear b1)
    | (go_at_call 6
       refine (HL.out _ _ _ hA.out.lies).mono ?_
       rintro e w1 ⟨gx, cx, rfl, b1, o1⟩
       have hbs := hR.out.bs
       replace hR := Lib.hid (hR.out.next b1)
       try replace hA := Lib.hid (hA.out.next b1)
       try replace hM := Lib.hid (hM.out.next b1)
       try replace hK := Lib.hid (hK.out.next b1)
       replace hR := Lib.hid (hR.out.addr o1 hbs (.inr rfl))
       clear b1 o1 hbs
       have hK := Lib.hid (book_start w w1 hR.out.below)
       have b1 := (Below.refl w1.heap.size w1).alloc (Nat.le_refl _) (.cells #[.slice none 0 0, .slice none 0 0, .slice none 0 0, .slice none 0 0, .slice none 0 0, .slice none 0 0, .slice none 0 0, .slice none 0 0, .slice none 0 0, .slice none 0 0, .slice none 0 0, .slice none 0 0] 33)
       replace hR := Lib.hid (hR.out.next b1)
       replace hA := Lib.hid (hA.out.next b1)
       replace hM := Lib.hid (hM.out.next b1)
       clear b1)
    | (go_at_call 7
       with_reducible refine (HP1.out _ _ _ (lent_lies (hR.out.get 0 rfl))).mono ?_
       rintro e w1 ⟨aa, ca, rfl, b1, o1⟩
       have hbs := hR.out.bs
       replace hR := Lib.hid (hR.out.next b1)
       try replace hA := Lib.hid (hA.out.next b1)
       try replace hM := Lib.hid (hM.out.next b1)
       try replace hK := Lib.hid (hK.out.next b1)
       replace hR := Lib.hid (hR.out.addr o1 hbs (.inl rfl))
       clear b1 o1 hbs)
    | (go_at_call 7
       with_reducible refine (HP2.out _ _ _ hM.out.lies).mono ?_
       rintro e w1 ⟨ab, cb', rfl, b1, o1⟩
       have hbs := hR.out.bs
       have HAB := Lib.hid (off_new (hR.out.get 1 rfl) o1)
       replace hR := Lib.hid (hR.out.next b1)
       try replace hA := Lib.hid (hA.out.next b1)
       try replace hM := Lib.hid (hM.out.next b1)
       try replace hK := Lib.hid (hK.out.next b1)
       replace hR := Lib.hid (hR.out.addr o1 hbs (.inl rfl))
       clear b1 o1 hbs)
    | (go_at_call 8
       with_reducible refine (HR1.out _ _ _ hA.out.lies).mono ?_
       rintro e w1 ⟨ap, cp, rfl, b1, o1⟩
       have hbs := hR.out.bs
       replace hR := Lib.hid (hR.out.next b1)
       try replace hA := Lib.hid (hA.out.next b1)
       try replace hM := Lib.hid (hM.out.next b1)
       try replace hK := Lib.hid (hK.out.next b1)
       replace hR := Lib.hid (hR.out.addr o1 hbs (.inl rfl))
       clear b1 o1 hbs)
    | (go_at_call 8
       with_reducible refine (HR2.out _ _ _ hM.out.lies).mono ?_
       rintro e w1 ⟨aq, cq, rfl, b1, o1⟩
       have hbs := hR.out.bs
       replace hR := Lib.hid (hR.out.next b1)
       try replace hA := Lib.hid (hA.out.next b1)
       try replace hM := Lib.hid (hM.out.next b1)
       try replace hK := Lib.hid (hK.out.next b1)
       replace hR := Lib.hid (hR.out.addr o1 hbs (.inl rfl))
       clear b1 o1 hbs)
    | (go_at_call 9
       with_reducible refine (keptTexts w _ w.heap.size _ [] [] [] [] aa A 3 ca LA.out (by omega) hK.out (hR.out.get 1 rfl) (fun y hy => by simp at hy) (by simp)).mono ?_
       rintro e w1 ⟨rfl, b1, ⟨J1, t1⟩, y1, k1⟩
       clear hM
       replace hA := Lib.hid (KeptI.turn hA.out hK.out.book t1 (hR.out.below.trans b1) (by decide))
       replace hR := Lib.hid (hR.out.turn hK.out.book b1 t1 (by decide) (by decide))
       replace hK := Lib.hid k1
       clear b1 t1 k1)
    | (go_at_call 9
       with_reducible refine (keptTexts w _ w.heap.size _ ([] ++ [⟨aa, A, ca⟩]) ([] ++ [y1]) [] [] ab B nB cb' LB.out (by omega) hK.out (hR.out.get 2 rfl) (fun y hy g e1 e2 => by
         obtain rfl : y = ⟨aa, A, ca⟩ := by simpa using hy
         rw [TL.cell, blk_is] at e1
         rw [blk_is] at e2
         exact Off.no HAB.out e1 e2) (by simp)).mono ?_
       rintro e w1 ⟨rfl, b1, ⟨J1, t1⟩, y2, k1⟩
       replace hA := Lib.hid (KeptI.turn hA.out hK.out.book t1 (hR.out.below.trans b1) (by decide))
       replace hR := Lib.hid (hR.out.turn hK.out.book b1 t1 (by decide) (by decide))
       replace hK := Lib.hid k1
       clear b1 t1 k1)
    | (go_at_call 10
       with_reducible refine (sameTexts A 3 _ _ _ _ _ LA.out (by omega) (own_lies (hR.out.get 1 rfl)) (own_lies (hR.out.get 3 rfl))).mono ?_
       rintro e w1 ⟨rfl, b1⟩
       replace hR := Lib.hid (hR.out.next b1)
       try replace hA := Lib.hid (hA.out.next b1)
       try replace hM := Lib.hid (hM.out.next b1)
       try replace hK := Lib.hid (hK.out.next b1)
       clear b1)
    | (go_at_call 10
       with_reducible refine (sameTexts B nB _ _ _ _ _ LB.out (by omega) (own_lies (hR.out.get 2 rfl)) (own_lies (hR.out.get 4 rfl))).mono ?_
       rintro e w1 ⟨rfl, b1⟩
       replace hR := Lib.hid (hR.out.next b1)
       try replace hA := Lib.hid (hA.out.next b1)
       try replace hM := Lib.hid (hM.out.next b1)
       try replace hK := Lib.hid (hK.out.next b1)
       clear b1)
    | (go_at_call 11
       refine (staysI _ _ _ la.length _ l1 _ _ L1.out (by omega) (hR.out.get 0 rfl) hA.out.lies).mono ?_
       rintro e w1 ⟨rfl, b1⟩
       replace hR := Lib.hid (hR.out.next b1)
       try replace hA := Lib.hid (hA.out.next b1)
       try replace hM := Lib.hid (hM.out.next b1)
       try replace hK := Lib.hid (hK.out.next b1)
       clear b1 hA
       obtain ⟨gp, cp', hvp, hcp, hlp⟩ := own_somec (hR.out.get 3 rfl) (show 0 < 3 by omega)
       obtain ⟨rfl, rfl⟩ : ap = some ⟨gp, 0, none⟩ ∧ cp = cp' := by simpa using hvp
       have rk : w1.cell? ⟨gp, Q, none⟩ = some (.string pk) := by
         obtain ⟨q1, q2, _, q3⟩ := LiesAt.at_ hlp HPK.out
         obtain rfl : (⟨gp, 0, none⟩ : Addr) = q1 := by simpa using q2
         rwa [Addr.add_mid, Nat.zero_add] at q3
       obtain ⟨W2, capb, hcv, hcell, hfro, b2⟩ := bytes_made w1 pk
       rw [HZ.out] at hcv
       have hck := hcell R (by rw [HZ.out]; omega)
       have hfk := hfro R (by rw [HZ.out]; omega)
       have hrng : W2.rangeAt w1.heap.size 0 (bcl pk.data.toList) := fun j v hv => by
         have hj : j < pk.size := by
           have := (List.getElem?_eq_some_iff.1 hv).1
           simpa [bcl] using this
         rw [Nat.zero_add, hcell j hj, ← hv]
         simp only [bcl, List.getElem?_map]
         rw [List.getElem?_eq_getElem (by rw [ba_len]; exact hj)]
         simp [ByteArray.getElem_eq_getElem_data]
       have hrng3 := bcl_set (k := R) hrng d8
       rw [HD8.out] at hrng3
       have hlt2 : w1.heap.size < W2.heap.size := by
         rcases Nat.lt_or_ge w1.heap.size W2.heap.size with h | h
         · exact h
         · have : W2.cell? ⟨w1.heap.size, R, none⟩ = none := by simp [World.cell?, Array.getElem?_eq_none h]
           rw [this] at hck
           cases hck
       have hB2 : Below w1.heap.size w1 (W2.setCell ⟨w1.heap.size, R, none⟩ (.int .u8 cb)) := b2.setCell (p := ⟨w1.heap.size, R, none⟩) (Nat.le_refl _) _
       have hl2 : LiesAt (W2.setCell ⟨w1.heap.size, R, none⟩ (.int .u8 cb)) (some ⟨gp, 0, none⟩) (txts A) := hlp.below hB2
       have HC := Lib.hid (And.intro hrng3 (And.intro hlt2 (And.intro hB2 hl2)))
       have HCP := Lib.hid hcp
       clear hvp hcp hlp hcell hfro b2 hrng hrng3 hlt2 hB2 hl2)
    | (refine wpList_append_copy rfl (.tmp 149) 34 rfl 9 i0 _ 1 16 Try.underlying34 HI.out.1 HI.out.2.1 HI.out.2.2.1 HI.out.2.2.2 rfl (by omega) (by omega) (some ⟨gp, 0, none⟩) 3 cp (txts A) rfl (fun j u hu => by obtain ⟨b, q1, _, q3⟩ := HC.out.2.2.2 j u hu; exact ⟨b, q1, q3⟩) (by rw [txts, List.length_map]; exact LA.out) (fun u hu => by obtain ⟨x, _, rfl⟩ := List.mem_map.1 hu; rfl) (by decide) ?_
       intro vt w5 b5 o5
       obtain ⟨gt, ct, rfl, hct, lt5⟩ := own_somec o5 (show 0 < 3 by omega)
       have hgt := o5.lt gt rfl
       obtain ⟨hrng3, hlt2, hB2, hl2⟩ := HC.out
       have hs2 : w1.heap.size < (W2.setCell ⟨w1.heap.size, R, none⟩ (.int .u8 cb)).heap.size := by simpa using hlt2
       have hrng5 : w5.rangeAt w1.heap.size 0 (bcl (pk.data.toList.set R d8)) := fun j v hv => (b5.cell (p := ⟨w1.heap.size, 0 + j, none⟩) hs2).trans (hrng3 j v hv)
       have hcv5 := conv_bcl w5 w1.heap.size 32 capb _ (by rw [List.length_set, ba_len, HZ.out]) hrng5
       rw [HT8.out] at hcv5
       obtain ⟨s1, s2⟩ := owns_cell o5 (k := Q) HPK.out
       have b6 : Below w1.heap.size w1 (w5.setCell ⟨gt, Q, none⟩ (.string t8)) := (hB2.trans (b5.mono (Nat.le_of_lt hs2))).setCell (p := ⟨gt, Q, none⟩) (Nat.le_trans (Nat.le_of_lt hs2) hgt.1) _
       have o6 := owns_set o5 Q (.string t8)
       rw [HP8.out] at o6
       have hbs := hR.out.bs
       replace hR := Lib.hid (hR.out.next b6)
       replace hK := Lib.hid (hK.out.next b6)
       replace hR := Lib.hid (hR.out.addr o6 (Nat.le_trans hbs (Nat.le_of_lt hs2)) (.inl rfl))
       clear o5 b5 lt5 hgt hrng3 hlt2 hB2 hl2 hs2 hrng5 b6 o6 hbs HC hct)
    | (go_at_call 12
       with_reducible refine (HG.out _ _ _ _ (hR.out.get 5 rfl)).mono ?_
       rintro e w1 ⟨ad, cd, rfl, b1, o1⟩
       have hbs := hR.out.bs
       replace hR := Lib.hid (hR.out.next b1)
       try replace hA := Lib.hid (hA.out.next b1)
       try replace hM := Lib.hid (hM.out.next b1)
       try replace hK := Lib.hid (hK.out.next b1)
       replace hR := Lib.hid (hR.out.addr o1 hbs (.inr rfl))
       clear b1 o1 hbs)
    | (go_at_call 13
       with_reducible refine (HD.out _ _ _ _ (hR.out.get 5 rfl)).mono ?_
       rintro e w1 ⟨ad2, cd2, rfl, b1, o1⟩
       have hbs := hR.out.bs
       replace hR := Lib.hid (hR.out.next b1)
       try replace hA := Lib.hid (hA.out.next b1)
       try replace hM := Lib.hid (hM.out.next b1)
       try replace hK := Lib.hid (hK.out.next b1)
       replace hR := Lib.hid (hR.out.addr o1 hbs (.inr rfl))
       clear b1 o1 hbs)
    | (go_at_call 14
       with_reducible refine (keptInts w _ w.heap.size _ ([] ++ [⟨aa, A, ca⟩] ++ [⟨ab, B, cb'⟩]) ([] ++ [y1] ++ [y2]) [] [] ad gc gc.length cd rfl (by have := S1.out; omega) hK.out (hR.out.get 6 rfl) (fun y hy => by simp at hy) (by simp)).mono ?_
       rintro e w1 ⟨rfl, b1, ⟨J1, t1⟩, z1, k1⟩
       replace hR := Lib.hid (hR.out.turn hK.out.book b1 t1 (by decide) (by decide))
       replace hK := Lib.hid k1
       clear b1 t1 k1)
    | (go_at_call 15
       with_reducible refine (HE.out _ _ _ _ (hR.out.get 5 rfl)).mono ?_
       rintro e w1 ⟨ae, ce, rfl, b1, o1⟩
       have hbs := hR.out.bs
       have HDE := Lib.hid (off_new (hR.out.get 6 rfl) o1)
       replace hR := Lib.hid (hR.out.next b1)
       try replace hA := Lib.hid (hA.out.next b1)
       try replace hM := Lib.hid (hM.out.next b1)
       try replace hK := Lib.hid (hK.out.next b1)
       replace hR := Lib.hid (hR.out.addr o1 hbs (.inr rfl))
       clear b1 o1 hbs)
    | (go_at_call 16
       with_reducible refine (HE2.out _ _ _ _ (hR.out.get 5 rfl)).mono ?_
       rintro e w1 ⟨ae2, ce2, rfl, b1, o1⟩
       have hbs := hR.out.bs
       replace hR := Lib.hid (hR.out.next b1)
       try replace hA := Lib.hid (hA.out.next b1)
       try replace hM := Lib.hid (hM.out.next b1)
       try replace hK := Lib.hid (hK.out.next b1)
       replace hR := Lib.hid (hR.out.addr o1 hbs (.inr rfl))
       clear b1 o1 hbs)
    | (go_at_call 14
       with_reducible refine (keptInts w _ w.heap.size _ ([] ++ [⟨aa, A, ca⟩] ++ [⟨ab, B, cb'⟩]) ([] ++ [y1] ++ [y2]) ([] ++ [⟨ad, gc, cd⟩]) ([] ++ [z1]) ae ge ge.length ce rfl (by have := S2.out; omega) hK.out (hR.out.get 8 rfl) (fun y hy g e1 e2 => by
         obtain rfl : y = ⟨ad, gc, cd⟩ := by simpa using hy
         rw [IL.cell, blk_is] at e1
         rw [blk_is] at e2
         exact Off.no HDE.out e1 e2) (by simp)).mono ?_
       rintro e w1 ⟨rfl, b1, ⟨J1, t1⟩, z2, k1⟩
       replace hR := Lib.hid (hR.out.turn hK.out.book b1 t1 (by decide) (by decide))
       replace hK := Lib.hid k1
       clear b1 t1 k1)
    | (go_at_call 15
       with_reducible refine (HF.out _ _ _ _ (hR.out.get 4 rfl)).mono ?_
       rintro e w1 ⟨af, cf, rfl, b1, o1⟩
       have hbs := hR.out.bs
       have HDF := Lib.hid (off_new (hR.out.get 6 rfl) o1)
       have HEF := Lib.hid (off_new (hR.out.get 8 rfl) o1)
       replace hR := Lib.hid (hR.out.next b1)
       try replace hA := Lib.hid (hA.out.next b1)
       try replace hM := Lib.hid (hM.out.next b1)
       try replace hK := Lib.hid (hK.out.next b1)
       replace hR := Lib.hid (hR.out.addr o1 hbs (.inr rfl))
       clear b1 o1 hbs)
    | (go_at_call 16
       with_reducible refine (HF2.out _ _ _ _ (hR.out.get 4 rfl)).mono ?_
       rintro e w1 ⟨af2, cf2, rfl, b1, o1⟩
       have hbs := hR.out.bs
       replace hR := Lib.hid (hR.out.next b1)
       try replace hA := Lib.hid (hA.out.next b1)
       try replace hM := Lib.hid (hM.out.next b1)
       try replace hK := Lib.hid (hK.out.next b1)
       replace hR := Lib.hid (hR.out.addr o1 hbs (.inr rfl))
       clear b1 o1 hbs)
    | (go_at_call 14
       with_reducible refine (keptInts w _ w.heap.size _ ([] ++ [⟨aa, A, ca⟩] ++ [⟨ab, B, cb'⟩]) ([] ++ [y1] ++ [y2]) ([] ++ [⟨ad, gc, cd⟩] ++ [⟨ae, ge, ce⟩]) ([] ++ [z1] ++ [z2]) af gf gf.length cf rfl (by have := S3.out; omega) hK.out (hR.out.get 10 rfl) (fun y hy g e1 e2 => by
         have hy2 : y = ⟨ad, gc, cd⟩ ∨ y = ⟨ae, ge, ce⟩ := by simpa using hy
         rw [blk_is] at e2
         rcases hy2 with rfl | rfl
         · rw [IL.cell, blk_is] at e1
           exact Off.no HDF.out e1 e2
         · rw [IL.cell, blk_is] at e1
           exact Off.no HEF.out e1 e2) (by simp)).mono ?_
       rintro e w1 ⟨rfl, b1, ⟨J1, t1⟩, z3, k1⟩
       replace hR := Lib.hid (hR.out.turn hK.out.book b1 t1 (by decide) (by decide))
       replace hK := Lib.hid k1
       clear b1 t1 k1)
    | (go_at_call 17
       with_reducible refine (sameInts gc gc.length _ _ ad ad2 _ rfl (by have := S1.out; omega) (own_lies (hR.out.get 6 rfl)) (own_lies (hR.out.get 7 rfl))).mono ?_
       rintro e w1 ⟨rfl, b1⟩
       replace hR := Lib.hid (hR.out.next b1)
       try replace hA := Lib.hid (hA.out.next b1)
       try replace hM := Lib.hid (hM.out.next b1)
       try replace hK := Lib.hid (hK.out.next b1)
       clear b1)
    | (go_at_call 17
       with_reducible refine (sameInts ge ge.length _ _ ae ae2 _ rfl (by have := S2.out; omega) (own_lies (hR.out.get 8 rfl)) (own_lies (hR.out.get 9 rfl))).mono ?_
       rintro e w1 ⟨rfl, b1⟩
       replace hR := Lib.hid (hR.out.next b1)
       try replace hA := Lib.hid (hA.out.next b1)
       try replace hM := Lib.hid (hM.out.next b1)
       try replace hK := Lib.hid (hK.out.next b1)
       clear b1)
    | (go_at_call 17
       with_reducible refine (sameInts gf gf.length _ _ af af2 _ rfl (by have := S3.out; omega) (own_lies (hR.out.get 10 rfl)) (own_lies (hR.out.get 11 rfl))).mono ?_
       rintro e w1 ⟨rfl, b1⟩
       replace hR := Lib.hid (hR.out.next b1)
       try replace hA := Lib.hid (hA.out.next b1)
       try replace hM := Lib.hid (hM.out.next b1)
       try replace hK := Lib.hid (hK.out.next b1)
       clear b1)
    | (go_at_call 18
       refine (apart_is w _ w.heap.size _ _ _ _ _ hK.out (by simp) (by simp)).mono ?_
       rintro e w1 ⟨rfl, b1⟩
       have hEnd := Lib.hid b1
       clear b1))
  all_goals
    go_ret
    exact ⟨rfl, hEnd.out⟩
set_option maxRecDepth 100000 in
set_option maxHeartbeats 8000000 in
theorem Tells_pad_spoilt (no v most u at_ cb : Int) (hcb0 : 0 ≤ cb) (hcb1 : cb < 256) (a3 a4 : Option Addr) (la lb : List Int) (c3 c4 : Nat) (w : World) (ha : LiesAt w a3 (vals la)) (hb : LiesAt w a4 (vals lb)) (h3 : la.length ≤ 30) (h4 : lb.length ≤ 30) (ok : pgOk no v (padL la) = true) (sp : Int) (hs1 : (sp == 0) = false) (hs2 : (sp != 0) = true) :
    Calls Try.prog 3 #[.int .i64 no, .int .i64 v, .int .i64 most, .slice a3 la.length c3, .slice a4 lb.length c4, .int .i64 u, .bool false, .int .i64 sp, .int .i64 at_, .int .u8 cb] w fun e w' => e = .returned (.bool true) ∧ Below w.heap.size w w' := by
  have hR : Hid (Rows w w w.heap.size []) := Lib.hid ⟨Below.refl _ _, Nat.le_refl _, fun r hr => by simp at hr⟩
  have HV := Lib.hid (fun z => alive_is z)
  have hi3 : (la.length : Int) ≤ 30 := by omega
  have hi4 : (lb.length : Int) ≤ 30 := by omega
  have HSA := Lib.hid (fun z (q : Below w.heap.size w z) => sixteen_is a3 la c3 z (ha.below q))
  have HSB := Lib.hid (fun z (q : Below w.heap.size w z) => sixteen_is a4 lb c4 z (hb.below q))
  obtain ⟨l1, hl1⟩ : ∃ l1, l1 = (padL la) := ⟨_, rfl⟩
  obtain ⟨m1, hm1⟩ : ∃ m1, m1 = (padL lb) := ⟨_, rfl⟩
  rw [← hl1] at ok
  have L1 : Hid (l1.length = 16) := Lib.hid (by rw [hl1]; exact padL_len _)
  have M1 : Hid (m1.length = 16) := Lib.hid (by rw [hm1]; exact padL_len _)
  have HNA := Lib.hid hl1.symm
  have HNB := Lib.hid hm1.symm
  have HL := Lib.hid (fun (a : Option Addr) (c : Nat) z (q : LiesAt z a (vals l1)) => lentI a l1 16 c z L1.out (by omega) q)
  obtain ⟨A, hAe⟩ : ∃ A, pgL no v l1 = A := ⟨_, rfl⟩
  obtain ⟨B, hBe⟩ : ∃ B, pgL no u m1 = B := ⟨_, rfl⟩
  obtain ⟨kB, hkB⟩ : ∃ kB, pgOk no u m1 = kB := ⟨_, rfl⟩
  obtain ⟨nB, hnB⟩ : ∃ nB, B.length = nB := ⟨_, rfl⟩
  have hnB3 : nB ≤ 3 := by rw [← hnB, ← hBe]; unfold pgL; split <;> simp [parts]
  have LB := Lib.hid hnB
  have LA : Hid (A.length = 3) := Lib.hid (by rw [← hAe, pgL_yes ok]; rfl)
  have HP1 := Lib.hid (fun (a : Option Addr) (c : Nat) z (q : LiesAt z a (vals l1)) => wpput_is no v a l1 16 c z L1.out (by omega) q true ok A hAe 3 LA.out)
  have HP2 := Lib.hid (fun (a : Option Addr) (c : Nat) z (q : LiesAt z a (vals m1)) => wpput_is no u a m1 16 c z M1.out (by omega) q kB hkB B hBe nB LB.out)
  have HR1 := Lib.hid (fun (a : Option Addr) (c : Nat) z (q : LiesAt z a (vals l1)) => wrpage_is no v a l1 16 c z L1.out (by omega) q true ok A hAe 3 LA.out)
  have HR2 := Lib.hid (fun (a : Option Addr) (c : Nat) z (q : LiesAt z a (vals m1)) => wrpage_is no u a m1 16 c z M1.out (by omega) q kB hkB B hBe nB LB.out)
  obtain ⟨i0, hi, hz0, hz1, hz2⟩ := sl_info pg_strInfo
  have HI := Lib.hid (And.intro hi (And.intro hz0 (And.intro hz1 hz2)))
  clear hi hz0 hz1 hz2
  have ht0 : -96 < at_.tmod 96 := Int.lt_tmod_of_pos at_ (b := 96) (by omega)
  have ht1 : at_.tmod 96 < 96 := Int.tmod_lt_of_pos at_ (by omega)
  obtain ⟨K, hK96, hk1, hk2⟩ := spoil_at at_
  obtain ⟨Q, hQ, hq1, hq2⟩ := spoil_q K hK96
  obtain ⟨R, hR32, hr1, hr2⟩ := spoil_r K
  have hKi : (K : Int) < 96 := by omega
  have hQi : (Q : Int) < 3 := by omega
  have hRi : (R : Int) < 32 := by omega
  have hqA : Q < A.length := by rw [LA.out]; exact hQ
  obtain ⟨pk, hpk⟩ : ∃ pk, A[Q]? = some pk := ⟨_, List.getElem?_eq_getElem hqA⟩
  have HPK : Hid ((txts A)[Q]? = some (.string pk)) := Lib.hid (by simp [txts, hpk])
  have HZ : Hid (pk.size = 32) := Lib.hid (by
    have h1 := parts_size _ (pgB_size no v l1 (pg_any ok).2)
    rw [← pgL_yes ok, hAe] at h1
    have h2 := List.any_eq_false.1 h1 pk (List.mem_of_getElem? hpk)
    simpa [outT] using h2)
  obtain ⟨d8, hd8⟩ : ∃ d8 : UInt8, (d8.toNat : Int) = cb := ⟨UInt8.ofNat cb.toNat, by rw [UInt8.toNat_ofNat']; omega⟩
  have HD8 := Lib.hid (congrArg (Value.int .u8) hd8)
  obtain ⟨t8, ht8⟩ : ∃ t8 : ByteArray, (⟨(pk.data.toList.set R d8).toArray⟩ : ByteArray) = t8 := ⟨_, rfl⟩
  have HT8 := Lib.hid ht8
  obtain ⟨PP, hPP⟩ : ∃ PP, A.set Q t8 = PP := ⟨_, rfl⟩
  have HP8 : Hid ((txts A).set Q (.string t8) = txts PP) := Lib.hid (by rw [← hPP]; simp [txts])
  have LP : Hid (PP.length = 3) := Lib.hid (by rw [← hPP, List.length_set]; exact LA.out)
  obtain ⟨gn, hgn⟩ : ∃ x, getN PP = x := ⟨_, rfl⟩
  obtain ⟨gv, hgv⟩ : ∃ x, getV PP = x := ⟨_, rfl⟩
  obtain ⟨gk, hgk⟩ : ∃ x, pgIs PP = x := ⟨_, rfl⟩
  obtain ⟨gc, hgc⟩ : ∃ x, getC PP = x := ⟨_, rfl⟩
  obtain ⟨ke, hke⟩ : ∃ x, atIs no most PP = x := ⟨_, rfl⟩
  obtain ⟨ge, hge⟩ : ∃ x, atC no most PP = x := ⟨_, rfl⟩
  obtain ⟨kf, hkf⟩ : ∃ x, atIs no u B = x := ⟨_, rfl⟩
  obtain ⟨gf, hgf⟩ : ∃ x, atC no u B = x := ⟨_, rfl⟩
  have S1 : Hid (gc.length ≤ 16) := Lib.hid (by rw [← hgc]; exact getC_small _)
  have S2 : Hid (ge.length ≤ 16) := Lib.hid (by rw [← hge]; exact atC_small _ _ _)
  have S3 : Hid (gf.length ≤ 16) := Lib.hid (by rw [← hgf]; exact atC_small _ _ _)
  have HG := Lib.hid (fun (a : Option Addr) (c b : Nat) z (q : z.ownsRow b 9 1 (.slice a 3 c) 3 (txts PP)) => wpget_is a PP 3 c b z LP.out (by omega) q gn gv gk gc hgn hgv hgk hgc)
  have HD := Lib.hid (fun (a : Option Addr) (c b : Nat) z (q : z.ownsRow b 9 1 (.slice a 3 c) 3 (txts PP)) => wrpaged_is a PP 3 c b z LP.out (by omega) q gn gv gk gc hgn hgv hgk hgc)
  have HE := Lib.hid (fun (a : Option Addr) (c b : Nat) z (q : z.ownsRow b 9 1 (.slice a 3 c) 3 (txts PP)) => wpat_is no most a PP 3 c b z LP.out (by omega) q ke ge hke hge)
  have HE2 := Lib.hid (fun (a : Option Addr) (c b : Nat) z (q : z.ownsRow b 9 1 (.slice a 3 c) 3 (txts PP)) => wrat_is no most a PP 3 c b z LP.out (by omega) q ke ge hke hge)
  have HF := Lib.hid (fun (a : Option Addr) (c b : Nat) z (q : z.ownsRow b 9 1 (.slice a nB c) nB (txts B)) => wpat_is no u a B nB c b z LB.out (by omega) q kf gf hkf hgf)
  have HF2 := Lib.hid (fun (a : Option Addr) (c b : Nat) z (q : z.ownsRow b 9 1 (.slice a nB c) nB (txts B)) => wrat_is no u a B nB c b z LB.out (by omega) q kf gf hkf hgf)
  clear ha hb ok hAe hBe hkB hnB hgn hgv hgk hgc hke hge hkf hgf hpk hd8 ht8 hPP hqA
  clear hl1 hm1
  go_enter Try.func3, Try.ntmps3
  go_wp2_with (first
    | (go_at_call 4
       refine (HV.out _).mono ?_
       rintro e w1 ⟨rfl, b1⟩
       replace hR := Lib.hid (hR.out.next b1)
       try replace hA := Lib.hid (hA.out.next b1)
       try replace hM := Lib.hid (hM.out.next b1)
       try replace hK := Lib.hid (hK.out.next b1)
       clear b1)
    | (go_at_call 5
       with_reducible refine (HSA.out _ hR.out.below).mono ?_
       rintro e w1 ⟨x, rfl, b1, o1⟩
       obtain ⟨g1, d1, rfl, _⟩ := own_some o1 (show 0 < 16 by omega)
       replace hR := Lib.hid (hR.out.next b1)
       try replace hA := Lib.hid (hA.out.next b1)
       try replace hM := Lib.hid (hM.out.next b1)
       try replace hK := Lib.hid (hK.out.next b1)
       have hA := Lib.hid (show KeptI w _ (some ⟨g1, 0, none⟩) (padL la) from KeptI.made o1)
       rw [HNA.out] at hA
       clear b1 o1)
    | (go_at_call 5
       with_reducible refine (HSB.out _ hR.out.below).mono ?_
       rintro e w1 ⟨x, rfl, b1, o1⟩
       obtain ⟨g2, d2, rfl, _⟩ := own_some o1 (show 0 < 16 by omega)
       replace hR := Lib.hid (hR.out.next b1)
       try replace hA := Lib.hid (hA.out.next b1)
       try replace hM := Lib.hid (hM.out.next b1)
       try replace hK := Lib.hid (hK.out.next b1)
       have hM := Lib.hid (show KeptI w _ (some ⟨g2, 0, none⟩) (padL lb) from KeptI.made o1)
       rw [HNB.out] at hM
       clear b1 o1)
    | (go_at_call 6
       refine (HL.out _ _ _ hA.out.lies).mono ?_
       rintro e w1 ⟨gx, cx, rfl, b1, o1⟩
       have hbs := hR.out.bs
       replace hR := Lib.hid (hR.out.next b1)
       try replace hA := Lib.hid (hA.out.next b1)
       try replace hM := Lib.hid (hM.out.next b1)
       try replace hK := Lib.hid (hK.out.next b1)
       replace hR := Lib.hid (hR.out.addr o1 hbs (.inr rfl))
       clear b1 o1 hbs
       have hK := Lib.hid (book_start w w1 hR.out.below)
       have b1 := (Below.refl w1.heap.size w1).alloc (Nat.le_refl _) (.cells #[.slice none 0 0, .slice none 0 0, .slice none 0 0, .slice none 0 0, .slice none 0 0, .slice none 0 0, .slice none 0 0, .slice none 0 0, .slice none 0 0, .slice none 0 0, .slice none 0 0, .slice none 0 0] 33)
       replace hR := Lib.hid (hR.out.next b1)
       replace hA := Lib.hid (hA.out.next b1)
       replace hM := Lib.hid (hM.out.next b1)
       clear b1)
    | (go_at_call 7
       with_reducible refine (HP1.out _ _ _ (lent_lies (hR.out.get 0 rfl))).mono ?_
       rintro e w1 ⟨aa, ca, rfl, b1, o1⟩
       have hbs := hR.out.bs
       replace hR := Lib.hid (hR.out.next b1)
       try replace hA := Lib.hid (hA.out.next b1)
       try replace hM := Lib.hid (hM.out.next b1)
       try replace hK := Lib.hid (hK.out.next b1)
       replace hR := Lib.hid (hR.out.addr o1 hbs (.inl rfl))
       clear b1 o1 hbs)
    | (go_at_call 7
       with_reducible refine (HP2.out _ _ _ hM.out.lies).mono ?_
       rintro e w1 ⟨ab, cb', rfl, b1, o1⟩
       have hbs := hR.out.bs
       have HAB := Lib.hid (off_new (hR.out.get 1 rfl) o1)
       replace hR := Lib.hid (hR.out.next b1)
       try replace hA := Lib.hid (hA.out.next b1)
       try replace hM := Lib.hid (hM.out.next b1)
       try replace hK := Lib.hid (hK.out.next b1)
       replace hR := Lib.hid (hR.out.addr o1 hbs (.inl rfl))
       clear b1 o1 hbs)
    | (go_at_call 8
       with_reducible refine (HR1.out _ _ _ hA.out.lies).mono ?_
       rintro e w1 ⟨ap, cp, rfl, b1, o1⟩
       have hbs := hR.out.bs
       replace hR := Lib.hid (hR.out.next b1)
       try replace hA := Lib.hid (hA.out.next b1)
       try replace hM := Lib.hid (hM.out.next b1)
       try replace hK := Lib.hid (hK.out.next b1)
       replace hR := Lib.hid (hR.out.addr o1 hbs (.inl rfl))
       clear b1 o1 hbs)
    | (go_at_call 8
       with_reducible refine (HR2.out _ _ _ hM.out.lies).mono ?_
       rintro e w1 ⟨aq, cq, rfl, b1, o1⟩
       have hbs := hR.out.bs
       replace hR := Lib.hid (hR.out.next b1)
       try replace hA := Lib.hid (hA.out.next b1)
       try replace hM := Lib.hid (hM.out.next b1)
       try replace hK := Lib.hid (hK.out.next b1)
       replace hR := Lib.hid (hR.out.addr o1 hbs (.inl rfl))
       clear b1 o1 hbs)
    | (go_at_call 9
       with_reducible refine (keptTexts w _ w.heap.size _ [] [] [] [] aa A 3 ca LA.out (by omega) hK.out (hR.out.get 1 rfl) (fun y hy => by simp at hy) (by simp)).mono ?_
       rintro e w1 ⟨rfl, b1, ⟨J1, t1⟩, y1, k1⟩
       clear hM
       replace hA := Lib.hid (KeptI.turn hA.out hK.out.book t1 (hR.out.below.trans b1) (by decide))
       replace hR := Lib.hid (hR.out.turn hK.out.book b1 t1 (by decide) (by decide))
       replace hK := Lib.hid k1
       clear b1 t1 k1)
    | (go_at_call 9
       with_reducible refine (keptTexts w _ w.heap.size _ ([] ++ [⟨aa, A, ca⟩]) ([] ++ [y1]) [] [] ab B nB cb' LB.out (by omega) hK.out (hR.out.get 2 rfl) (fun y hy g e1 e2 => by
         obtain rfl : y = ⟨aa, A, ca⟩ := by simpa using hy
         rw [TL.cell, blk_is] at e1
         rw [blk_is] at e2
         exact Off.no HAB.out e1 e2) (by simp)).mono ?_
       rintro e w1 ⟨rfl, b1, ⟨J1, t1⟩, y2, k1⟩
       replace hA := Lib.hid (KeptI.turn hA.out hK.out.book t1 (hR.out.below.trans b1) (by decide))
       replace hR := Lib.hid (hR.out.turn hK.out.book b1 t1 (by decide) (by decide))
       replace hK := Lib.hid k1
       clear b1 t1 k1)
    | (go_at_call 10
       with_reducible refine (sameTexts A 3 _ _ _ _ _ LA.out (by omega) (own_lies (hR.out.get 1 rfl)) (own_lies (hR.out.get 3 rfl))).mono ?_
       rintro e w1 ⟨rfl, b1⟩
       replace hR := Lib.hid (hR.out.next b1)
       try replace hA := Lib.hid (hA.out.next b1)
       try replace hM := Lib.hid (hM.out.next b1)
       try replace hK := Lib.hid (hK.out.next b1)
       clear b1)
    | (go_at_call 10
       with_reducible refine (sameTexts B nB _ _ _ _ _ LB.out (by omega) (own_lies (hR.out.get 2 rfl)) (own_lies (hR.out.get 4 rfl))).mono ?_
       rintro e w1 ⟨rfl, b1⟩
       replace hR := Lib.hid (hR.out.next b1)
       try replace hA := Lib.hid (hA.out.next b1)
       try replace hM := Lib.hid (hM.out.next b1)
       try replace hK := Lib.hid (hK.out.next b1)
       clear b1)
    | (go_at_call 11
       refine (staysI _ _ _ 16 _ l1 _ _ L1.out (by omega) (hR.out.get 0 rfl) hA.out.lies).mono ?_
       rintro e w1 ⟨rfl, b1⟩
       replace hR := Lib.hid (hR.out.next b1)
       try replace hA := Lib.hid (hA.out.next b1)
       try replace hM := Lib.hid (hM.out.next b1)
       try replace hK := Lib.hid (hK.out.next b1)
       clear b1 hA
       obtain ⟨gp, cp', hvp, hcp, hlp⟩ := own_somec (hR.out.get 3 rfl) (show 0 < 3 by omega)
       obtain ⟨rfl, rfl⟩ : ap = some ⟨gp, 0, none⟩ ∧ cp = cp' := by simpa using hvp
       have rk : w1.cell? ⟨gp, Q, none⟩ = some (.string pk) := by
         obtain ⟨q1, q2, _, q3⟩ := LiesAt.at_ hlp HPK.out
         obtain rfl : (⟨gp, 0, none⟩ : Addr) = q1 := by simpa using q2
         rwa [Addr.add_mid, Nat.zero_add] at q3
       obtain ⟨W2, capb, hcv, hcell, hfro, b2⟩ := bytes_made w1 pk
       rw [HZ.out] at hcv
       have hck := hcell R (by rw [HZ.out]; omega)
       have hfk := hfro R (by rw [HZ.out]; omega)
       have hrng : W2.rangeAt w1.heap.size 0 (bcl pk.data.toList) := fun j v hv => by
         have hj : j < pk.size := by
           have := (List.getElem?_eq_some_iff.1 hv).1
           simpa [bcl] using this
         rw [Nat.zero_add, hcell j hj, ← hv]
         simp only [bcl, List.getElem?_map]
         rw [List.getElem?_eq_getElem (by rw [ba_len]; exact hj)]
         simp [ByteArray.getElem_eq_getElem_data]
       have hrng3 := bcl_set (k := R) hrng d8
       rw [HD8.out] at hrng3
       have hlt2 : w1.heap.size < W2.heap.size := by
         rcases Nat.lt_or_ge w1.heap.size W2.heap.size with h | h
         · exact h
         · have : W2.cell? ⟨w1.heap.size, R, none⟩ = none := by simp [World.cell?, Array.getElem?_eq_none h]
           rw [this] at hck
           cases hck
       have hB2 : Below w1.heap.size w1 (W2.setCell ⟨w1.heap.size, R, none⟩ (.int .u8 cb)) := b2.setCell (p := ⟨w1.heap.size, R, none⟩) (Nat.le_refl _) _
       have hl2 : LiesAt (W2.setCell ⟨w1.heap.size, R, none⟩ (.int .u8 cb)) (some ⟨gp, 0, none⟩) (txts A) := hlp.below hB2
       have HC := Lib.hid (And.intro hrng3 (And.intro hlt2 (And.intro hB2 hl2)))
       have HCP := Lib.hid hcp
       clear hvp hcp hlp hcell hfro b2 hrng hrng3 hlt2 hB2 hl2)
    | (refine wpList_append_copy rfl (.tmp 149) 34 rfl 9 i0 _ 1 16 Try.underlying34 HI.out.1 HI.out.2.1 HI.out.2.2.1 HI.out.2.2.2 rfl (by omega) (by omega) (some ⟨gp, 0, none⟩) 3 cp (txts A) rfl (fun j u hu => by obtain ⟨b, q1, _, q3⟩ := HC.out.2.2.2 j u hu; exact ⟨b, q1, q3⟩) (by rw [txts, List.length_map]; exact LA.out) (fun u hu => by obtain ⟨x, _, rfl⟩ := List.mem_map.1 hu; rfl) (by decide) ?_
       intro vt w5 b5 o5
       obtain ⟨gt, ct, rfl, hct, lt5⟩ := own_somec o5 (show 0 < 3 by omega)
       have hgt := o5.lt gt rfl
       obtain ⟨hrng3, hlt2, hB2, hl2⟩ := HC.out
       have hs2 : w1.heap.size < (W2.setCell ⟨w1.heap.size, R, none⟩ (.int .u8 cb)).heap.size := by simpa using hlt2
       have hrng5 : w5.rangeAt w1.heap.size 0 (bcl (pk.data.toList.set R d8)) := fun j v hv => (b5.cell (p := ⟨w1.heap.size, 0 + j, none⟩) hs2).trans (hrng3 j v hv)
       have hcv5 := conv_bcl w5 w1.heap.size 32 capb _ (by rw [List.length_set, ba_len, HZ.out]) hrng5
       rw [HT8.out] at hcv5
       obtain ⟨s1, s2⟩ := owns_cell o5 (k := Q) HPK.out
       have b6 : Below w1.heap.size w1 (w5.setCell ⟨gt, Q, none⟩ (.string t8)) := (hB2.trans (b5.mono (Nat.le_of_lt hs2))).setCell (p := ⟨gt, Q, none⟩) (Nat.le_trans (Nat.le_of_lt hs2) hgt.1) _
       have o6 := owns_set o5 Q (.string t8)
       rw [HP8.out] at o6
       have hbs := hR.out.bs
       replace hR := Lib.hid (hR.out.next b6)
       replace hK := Lib.hid (hK.out.next b6)
       replace hR := Lib.hid (hR.out.addr o6 (Nat.le_trans hbs (Nat.le_of_lt hs2)) (.inl rfl))
       clear o5 b5 lt5 hgt hrng3 hlt2 hB2 hl2 hs2 hrng5 b6 o6 hbs HC hct)
    | (go_at_call 12
       with_reducible refine (HG.out _ _ _ _ (hR.out.get 5 rfl)).mono ?_
       rintro e w1 ⟨ad, cd, rfl, b1, o1⟩
       have hbs := hR.out.bs
       replace hR := Lib.hid (hR.out.next b1)
       try replace hA := Lib.hid (hA.out.next b1)
       try replace hM := Lib.hid (hM.out.next b1)
       try replace hK := Lib.hid (hK.out.next b1)
       replace hR := Lib.hid (hR.out.addr o1 hbs (.inr rfl))
       clear b1 o1 hbs)
    | (go_at_call 13
       with_reducible refine (HD.out _ _ _ _ (hR.out.get 5 rfl)).mono ?_
       rintro e w1 ⟨ad2, cd2, rfl, b1, o1⟩
       have hbs := hR.out.bs
       replace hR := Lib.hid (hR.out.next b1)
       try replace hA := Lib.hid (hA.out.next b1)
       try replace hM := Lib.hid (hM.out.next b1)
       try replace hK := Lib.hid (hK.out.next b1)
       replace hR := Lib.hid (hR.out.addr o1 hbs (.inr rfl))
       clear b1 o1 hbs)
    | (go_at_call 14
       with_reducible refine (keptInts w _ w.heap.size _ ([] ++ [⟨aa, A, ca⟩] ++ [⟨ab, B, cb'⟩]) ([] ++ [y1] ++ [y2]) [] [] ad gc gc.length cd rfl (by have := S1.out; omega) hK.out (hR.out.get 6 rfl) (fun y hy => by simp at hy) (by simp)).mono ?_
       rintro e w1 ⟨rfl, b1, ⟨J1, t1⟩, z1, k1⟩
       replace hR := Lib.hid (hR.out.turn hK.out.book b1 t1 (by decide) (by decide))
       replace hK := Lib.hid k1
       clear b1 t1 k1)
    | (go_at_call 15
       with_reducible refine (HE.out _ _ _ _ (hR.out.get 5 rfl)).mono ?_
       rintro e w1 ⟨ae, ce, rfl, b1, o1⟩
       have hbs := hR.out.bs
       have HDE := Lib.hid (off_new (hR.out.get 6 rfl) o1)
       replace hR := Lib.hid (hR.out.next b1)
       try replace hA := Lib.hid (hA.out.next b1)
       try replace hM := Lib.hid (hM.out.next b1)
       try replace hK := Lib.hid (hK.out.next b1)
       replace hR := Lib.hid (hR.out.addr o1 hbs (.inr rfl))
       clear b1 o1 hbs)
    | (go_at_call 16
       with_reducible refine (HE2.out _ _ _ _ (hR.out.get 5 rfl)).mono ?_
       rintro e w1 ⟨ae2, ce2, rfl, b1, o1⟩
       have hbs := hR.out.bs
       replace hR := Lib.hid (hR.out.next b1)
       try replace hA := Lib.hid (hA.out.next b1)
       try replace hM := Lib.hid (hM.out.next b1)
       try replace hK := Lib.hid (hK.out.next b1)
       replace hR := Lib.hid (hR.out.addr o1 hbs (.inr rfl))
       clear b1 o1 hbs)
    | (go_at_call 14
       with_reducible refine (keptInts w _ w.heap.size _ ([] ++ [⟨aa, A, ca⟩] ++ [⟨ab, B, cb'⟩]) ([] ++ [y1] ++ [y2]) ([] ++ [⟨ad, gc, cd⟩]) ([] ++ [z1]) ae ge ge.length ce rfl (by have := S2.out; omega) hK.out (hR.out.get 8 rfl) (fun y hy g e1 e2 => by
         obtain rfl : y = ⟨ad, gc, cd⟩ := by simpa using hy
         rw [IL.cell, blk_is] at e1
         rw [blk_is] at e2
         exact Off.no HDE.out e1 e2) (by simp)).mono ?_
       rintro e w1 ⟨rfl, b1, ⟨J1, t1⟩, z2, k1⟩
       replace hR := Lib.hid (hR.out.turn hK.out.book b1 t1 (by decide) (by decide))
       replace hK := Lib.hid k1
       clear b1 t1 k1)
    | (go_at_call 15
       with_reducible refine (HF.out _ _ _ _ (hR.out.get 4 rfl)).mono ?_
       rintro e w1 ⟨af, cf, rfl, b1, o1⟩
       have hbs := hR.out.bs
       have HDF := Lib.hid (off_new (hR.out.get 6 rfl) o1)
       have HEF := Lib.hid (off_new (hR.out.get 8 rfl) o1)
       replace hR := Lib.hid (hR.out.next b1)
       try replace hA := Lib.hid (hA.out.next b1)
       try replace hM := Lib.hid (hM.out.next b1)
       try replace hK := Lib.hid (hK.out.next b1)
       replace hR := Lib.hid (hR.out.addr o1 hbs (.inr rfl))
       clear b1 o1 hbs)
    | (go_at_call 16
       with_reducible refine (HF2.out _ _ _ _ (hR.out.get 4 rfl)).mono ?_
       rintro e w1 ⟨af2, cf2, rfl, b1, o1⟩
       have hbs := hR.out.bs
       replace hR := Lib.hid (hR.out.next b1)
       try replace hA := Lib.hid (hA.out.next b1)
       try replace hM := Lib.hid (hM.out.next b1)
       try replace hK := Lib.hid (hK.out.next b1)
       replace hR := Lib.hid (hR.out.addr o1 hbs (.inr rfl))
       clear b1 o1 hbs)
    | (go_at_call 14
       with_reducible refine (keptInts w _ w.heap.size _ ([] ++ [⟨aa, A, ca⟩] ++ [⟨ab, B, cb'⟩]) ([] ++ [y1] ++ [y2]) ([] ++ [⟨ad, gc, cd⟩] ++ [⟨ae, ge, ce⟩]) ([] ++ [z1] ++ [z2]) af gf gf.length cf rfl (by have := S3.out; omega) hK.out (hR.out.get 10 rfl) (fun y hy g e1 e2 => by
         have hy2 : y = ⟨ad, gc, cd⟩ ∨ y = ⟨ae, ge, ce⟩ := by simpa using hy
         rw [blk_is] at e2
         rcases hy2 with rfl | rfl
         · rw [IL.cell, blk_is] at e1
           exact Off.no HDF.out e1 e2
         · rw [IL.cell, blk_is] at e1
           exact Off.no HEF.out e1 e2) (by simp)).mono ?_
       rintro e w1 ⟨rfl, b1, ⟨J1, t1⟩, z3, k1⟩
       replace hR := Lib.hid (hR.out.turn hK.out.book b1 t1 (by decide) (by decide))
       replace hK := Lib.hid k1
       clear b1 t1 k1)
    | (go_at_call 17
       with_reducible refine (sameInts gc gc.length _ _ ad ad2 _ rfl (by have := S1.out; omega) (own_lies (hR.out.get 6 rfl)) (own_lies (hR.out.get 7 rfl))).mono ?_
       rintro e w1 ⟨rfl, b1⟩
       replace hR := Lib.hid (hR.out.next b1)
       try replace hA := Lib.hid (hA.out.next b1)
       try replace hM := Lib.hid (hM.out.next b1)
       try replace hK := Lib.hid (hK.out.next b1)
       clear b1)
    | (go_at_call 17
       with_reducible refine (sameInts ge ge.length _ _ ae ae2 _ rfl (by have := S2.out; omega) (own_lies (hR.out.get 8 rfl)) (own_lies (hR.out.get 9 rfl))).mono ?_
       rintro e w1 ⟨rfl, b1⟩
       replace hR := Lib.hid (hR.out.next b1)
       try replace hA := Lib.hid (hA.out.next b1)
       try replace hM := Lib.hid (hM.out.next b1)
       try replace hK := Lib.hid (hK.out.next b1)
       clear b1)
    | (go_at_call 17
       with_reducible refine (sameInts gf gf.length _ _ af af2 _ rfl (by have := S3.out; omega) (own_lies (hR.out.get 10 rfl)) (own_lies (hR.out.get 11 rfl))).mono ?_
       rintro e w1 ⟨rfl, b1⟩
       replace hR := Lib.hid (hR.out.next b1)
       try replace hA := Lib.hid (hA.out.next b1)
       try replace hM := Lib.hid (hM.out.next b1)
       try replace hK := Lib.hid (hK.out.next b1)
       clear b1)
    | (go_at_call 18
       refine (apart_is w _ w.heap.size _ _ _ _ _ hK.out (by simp) (by simp)).mono ?_
       rintro e w1 ⟨rfl, b1⟩
       have hEnd := Lib.hid b1
       clear b1))
  all_goals
    go_ret
    exact ⟨rfl, hEnd.out⟩
end Go.Proofs.Ytgmjphekfhiapaa
