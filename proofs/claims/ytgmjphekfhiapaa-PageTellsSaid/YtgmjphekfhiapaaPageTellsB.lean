/- PageTells' walk (raw-flat pad-flat pad-no). -/
import Derived.Test.YtgmjphekfhiapaaPageWrap
namespace Go.Proofs.Ytgmjphekfhiapaa
open Go.RowKit
open Go.Proofs.Ytgmjphekfhiapaa.Bk

set_option maxRecDepth 100000 in
set_option maxHeartbeats 8000000 in
theorem Tells_raw_flat (no v most u at_ cb : Int) (hcb0 : 0 ≤ cb) (hcb1 : cb < 256) (a3 a4 : Option Addr) (la lb : List Int) (c3 c4 : Nat) (w : World) (ha : LiesAt w a3 (vals la)) (hb : LiesAt w a4 (vals lb)) (h3 : la.length ≤ 30) (h4 : lb.length ≤ 30) (ok : pgOk no v la = true) :
    Calls Try.prog 3 #[.int .i64 no, .int .i64 v, .int .i64 most, .slice a3 la.length c3, .slice a4 lb.length c4, .int .i64 u, .bool true, .int .i64 0, .int .i64 at_, .int .u8 cb] w fun e w' => e = .returned (.bool true) ∧ Below w.heap.size w w' := by
  have hR : Hid (Rows w w w.heap.size []) := Lib.hid ⟨Below.refl _ _, Nat.le_refl _, fun r hr => by simp at hr⟩
  have HV := Lib.hid (fun z => alive_is z)
  have hi3 : (la.length : Int) ≤ 30 := by omega
  have hi4 : (lb.length : Int) ≤ 30 := by omega
  obtain ⟨l1, hl1⟩ : ∃ l1, l1 = la := ⟨_, rfl⟩
  obtain ⟨m1, hm1⟩ : ∃ m1, m1 = lb := ⟨_, rfl⟩
  rw [← hl1] at ok
  have L1 : Hid (l1.length = la.length) := Lib.hid (by rw [hl1])
  have M1 : Hid (m1.length = lb.length) := Lib.hid (by rw [hm1])
  have hA : Hid (KeptI w w a3 l1) := Lib.hid (by rw [hl1]; exact KeptI.came ha (Below.refl _ _))
  have hM : Hid (KeptI w w a4 m1) := Lib.hid (by rw [hm1]; exact KeptI.came hb (Below.refl _ _))
  have HL := Lib.hid (fun (a : Option Addr) (c : Nat) z (q : LiesAt z a (vals l1)) => lentI a l1 la.length c z L1.out (by omega) q)
  obtain ⟨A, hAe⟩ : ∃ A, pgL no v l1 = A := ⟨_, rfl⟩
  obtain ⟨B, hBe⟩ : ∃ B, pgL no u m1 = B := ⟨_, rfl⟩
  obtain ⟨kB, hkB⟩ : ∃ kB, pgOk no u m1 = kB := ⟨_, rfl⟩
  obtain ⟨nB, hnB⟩ : ∃ nB, B.length = nB := ⟨_, rfl⟩
  have hnB3 : nB ≤ 3 := by rw [← hnB, ← hBe]; unfold pgL; split <;> simp [parts]
  have LB := Lib.hid hnB
  have LA : Hid (A.length = 3) := Lib.hid (by rw [← hAe, pgL_yes ok]; rfl)
  have HP1 := Lib.hid (fun (a : Option Addr) (c : Nat) z (q : LiesAt z a (vals l1)) => wpput_is no v a l1 la.length c z L1.out (by omega) q true ok A hAe 3 LA.out)
  have HP2 := Lib.hid (fun (a : Option Addr) (c : Nat) z (q : LiesAt z a (vals m1)) => wpput_is no u a m1 lb.length c z M1.out (by omega) q kB hkB B hBe nB LB.out)
  have HR1 := Lib.hid (fun (a : Option Addr) (c : Nat) z (q : LiesAt z a (vals l1)) => wrpage_is no v a l1 la.length c z L1.out (by omega) q true ok A hAe 3 LA.out)
  have HR2 := Lib.hid (fun (a : Option Addr) (c : Nat) z (q : LiesAt z a (vals m1)) => wrpage_is no u a m1 lb.length c z M1.out (by omega) q kB hkB B hBe nB LB.out)
  obtain ⟨gn, hgn⟩ : ∃ x, getN A = x := ⟨_, rfl⟩
  obtain ⟨gv, hgv⟩ : ∃ x, getV A = x := ⟨_, rfl⟩
  obtain ⟨gk, hgk⟩ : ∃ x, pgIs A = x := ⟨_, rfl⟩
  obtain ⟨gc, hgc⟩ : ∃ x, getC A = x := ⟨_, rfl⟩
  obtain ⟨ke, hke⟩ : ∃ x, atIs no most A = x := ⟨_, rfl⟩
  obtain ⟨ge, hge⟩ : ∃ x, atC no most A = x := ⟨_, rfl⟩
  obtain ⟨kf, hkf⟩ : ∃ x, atIs no u B = x := ⟨_, rfl⟩
  obtain ⟨gf, hgf⟩ : ∃ x, atC no u B = x := ⟨_, rfl⟩
  have S1 : Hid (gc.length ≤ 16) := Lib.hid (by rw [← hgc]; exact getC_small _)
  have S2 : Hid (ge.length ≤ 16) := Lib.hid (by rw [← hge]; exact atC_small _ _ _)
  have S3 : Hid (gf.length ≤ 16) := Lib.hid (by rw [← hgf]; exact atC_small _ _ _)
  have HG := Lib.hid (fun (a : Option Addr) (c b : Nat) z (q : z.ownsRow b 9 1 (.slice a 3 c) 3 (txts A)) => wpget_is a A 3 c b z LA.out (by omega) q gn gv gk gc hgn hgv hgk hgc)
  have HD := Lib.hid (fun (a : Option Addr) (c b : Nat) z (q : z.ownsRow b 9 1 (.slice a 3 c) 3 (txts A)) => wrpaged_is a A 3 c b z LA.out (by omega) q gn gv gk gc hgn hgv hgk hgc)
  have HE := Lib.hid (fun (a : Option Addr) (c b : Nat) z (q : z.ownsRow b 9 1 (.slice a 3 c) 3 (txts A)) => wpat_is no most a A 3 c b z LA.out (by omega) q ke ge hke hge)
  have HE2 := Lib.hid (fun (a : Option Addr) (c b : Nat) z (q : z.ownsRow b 9 1 (.slice a 3 c) 3 (txts A)) => wrat_is no most a A 3 c b z LA.out (by omega) q ke ge hke hge)
  have HF := Lib.hid (fun (a : Option Addr) (c b : Nat) z (q : z.ownsRow b 9 1 (.slice a nB c) nB (txts B)) => wpat_is no u a B nB c b z LB.out (by omega) q kf gf hkf hgf)
  have HF2 := Lib.hid (fun (a : Option Addr) (c b : Nat) z (q : z.ownsRow b 9 1 (.slice a nB c) nB (txts B)) => wrat_is no u a B nB c b z LB.out (by omega) q kf gf hkf hgf)
  clear ha hb ok hAe hBe hkB hnB hgn hgv hgk hgc hke hge hkf hgf
  clear hl1 hm1
  go_enter Try.func3, Try.ntmps3
  go_wp2_with (first
    | (go_at_call 4
       refine (HV.out _).mono ?_
       rintro e w1 ⟨rfl, b1⟩
       replace hR := Lib.hid (hR.out.next b1)
       try replace hA := Lib.hid (hA.out.next b1)
       try replace hM := Lib.hid (hM.out.next b1)
       try replace hK := Lib.hid (hK.out.next b1)
       clear b1)
    | (go_at_call 6
       refine (HL.out _ _ _ hA.out.lies).mono ?_
       rintro e w1 ⟨gx, cx, rfl, b1, o1⟩
       have hbs := hR.out.bs
       replace hR := Lib.hid (hR.out.next b1)
       try replace hA := Lib.hid (hA.out.next b1)
       try replace hM := Lib.hid (hM.out.next b1)
       try replace hK := Lib.hid (hK.out.next b1)
       replace hR := Lib.hid (hR.out.addr o1 hbs (.inr rfl))
       clear b1 o1 hbs
       have hK := Lib.hid (book_start w w1 hR.out.below)
       have b1 := (Below.refl w1.heap.size w1).alloc (Nat.le_refl _) (.cells #[.slice none 0 0, .slice none 0 0, .slice none 0 0, .slice none 0 0, .slice none 0 0, .slice none 0 0, .slice none 0 0, .slice none 0 0, .slice none 0 0, .slice none 0 0, .slice none 0 0, .slice none 0 0] 33)
       replace hR := Lib.hid (hR.out.next b1)
       replace hA := Lib.hid (hA.out.next b1)
       replace hM := Lib.hid (hM.out.next b1)
       clear b1)
    | (go_at_call 7
       with_reducible refine (HP1.out _ _ _ (lent_lies (hR.out.get 0 rfl))).mono ?_
       rintro e w1 ⟨aa, ca, rfl, b1, o1⟩
       have hbs := hR.out.bs
       replace hR := Lib.hid (hR.out.next b1)
       try replace hA := Lib.hid (hA.out.next b1)
       try replace hM := Lib.hid (hM.out.next b1)
       try replace hK := Lib.hid (hK.out.next b1)
       replace hR := Lib.hid (hR.out.addr o1 hbs (.inl rfl))
       clear b1 o1 hbs)
    | (go_at_call 7
       with_reducible refine (HP2.out _ _ _ hM.out.lies).mono ?_
       rintro e w1 ⟨ab, cb', rfl, b1, o1⟩
       have hbs := hR.out.bs
       have HAB := Lib.hid (off_new (hR.out.get 1 rfl) o1)
       replace hR := Lib.hid (hR.out.next b1)
       try replace hA := Lib.hid (hA.out.next b1)
       try replace hM := Lib.hid (hM.out.next b1)
       try replace hK := Lib.hid (hK.out.next b1)
       replace hR := Lib.hid (hR.out.addr o1 hbs (.inl rfl))
       clear b1 o1 hbs)
    | (go_at_call 8
       with_reducible refine (HR1.out _ _ _ hA.out.lies).mono ?_
       rintro e w1 ⟨ap, cp, rfl, b1, o1⟩
       have hbs := hR.out.bs
       replace hR := Lib.hid (hR.out.next b1)
       try replace hA := Lib.hid (hA.out.next b1)
       try replace hM := Lib.hid (hM.out.next b1)
       try replace hK := Lib.hid (hK.out.next b1)
       replace hR := Lib.hid (hR.out.addr o1 hbs (.inl rfl))
       clear b1 o1 hbs)
    | (go_at_call 8
       with_reducible refine (HR2.out _ _ _ hM.out.lies).mono ?_
       rintro e w1 ⟨aq, cq, rfl, b1, o1⟩
       have hbs := hR.out.bs
       replace hR := Lib.hid (hR.out.next b1)
       try replace hA := Lib.hid (hA.out.next b1)
       try replace hM := Lib.hid (hM.out.next b1)
       try replace hK := Lib.hid (hK.out.next b1)
       replace hR := Lib.hid (hR.out.addr o1 hbs (.inl rfl))
       clear b1 o1 hbs)
    | (go_at_call 9
       with_reducible refine (keptTexts w _ w.heap.size _ [] [] [] [] aa A 3 ca LA.out (by omega) hK.out (hR.out.get 1 rfl) (fun y hy => by simp at hy) (by simp)).mono ?_
       rintro e w1 ⟨rfl, b1, ⟨J1, t1⟩, y1, k1⟩
       clear hM
       replace hA := Lib.hid (KeptI.turn hA.out hK.out.book t1 (hR.out.below.trans b1) (by decide))
       replace hR := Lib.hid (hR.out.turn hK.out.book b1 t1 (by decide) (by decide))
       replace hK := Lib.hid k1
       clear b1 t1 k1)
    | (go_at_call 9
       with_reducible refine (keptTexts w _ w.heap.size _ ([] ++ [⟨aa, A, ca⟩]) ([] ++ [y1]) [] [] ab B nB cb' LB.out (by omega) hK.out (hR.out.get 2 rfl) (fun y hy g e1 e2 => by
         obtain rfl : y = ⟨aa, A, ca⟩ := by simpa using hy
         rw [TL.cell, blk_is] at e1
         rw [blk_is] at e2
         exact Off.no HAB.out e1 e2) (by simp)).mono ?_
       rintro e w1 ⟨rfl, b1, ⟨J1, t1⟩, y2, k1⟩
       replace hA := Lib.hid (KeptI.turn hA.out hK.out.book t1 (hR.out.below.trans b1) (by decide))
       replace hR := Lib.hid (hR.out.turn hK.out.book b1 t1 (by decide) (by decide))
       replace hK := Lib.hid k1
       clear b1 t1 k1)
    | (go_at_call 10
       with_reducible refine (sameTexts A 3 _ _ _ _ _ LA.out (by omega) (own_lies (hR.out.get 1 rfl)) (own_lies (hR.out.get 3 rfl))).mono ?_
       rintro e w1 ⟨rfl, b1⟩
       replace hR := Lib.hid (hR.out.next b1)
       try replace hA := Lib.hid (hA.out.next b1)
       try replace hM := Lib.hid (hM.out.next b1)
       try replace hK := Lib.hid (hK.out.next b1)
       clear b1)
    | (go_at_call 10
       with_reducible refine (sameTexts B nB _ _ _ _ _ LB.out (by omega) (own_lies (hR.out.get 2 rfl)) (own_lies (hR.out.get 4 rfl))).mono ?_
       rintro e w1 ⟨rfl, b1⟩
       replace hR := Lib.hid (hR.out.next b1)
       try replace hA := Lib.hid (hA.out.next b1)
       try replace hM := Lib.hid (hM.out.next b1)
       try replace hK := Lib.hid (hK.out.next b1)
       clear b1)
    | (go_at_call 11
       refine (staysI _ _ _ la.length _ l1 _ _ L1.out (by omega) (hR.out.get 0 rfl) hA.out.lies).mono ?_
       rintro e w1 ⟨rfl, b1⟩
       replace hR := Lib.hid (hR.out.next b1)
       try replace hA := Lib.hid (hA.out.next b1)
       try replace hM := Lib.hid (hM.out.next b1)
       try replace hK := Lib.hid (hK.out.next b1)
       clear b1 hA)
    | (go_at_call 12
       with_reducible refine (HG.out _ _ _ _ (hR.out.get 3 rfl)).mono ?_
       rintro e w1 ⟨ad, cd, rfl, b1, o1⟩
       have hbs := hR.out.bs
       replace hR := Lib.hid (hR.out.next b1)
       try replace hA := Lib.hid (hA.out.next b1)
       try replace hM := Lib.hid (hM.out.next b1)
       try replace hK := Lib.hid (hK.out.next b1)
       replace hR := Lib.hid (hR.out.addr o1 hbs (.inr rfl))
       clear b1 o1 hbs)
    | (go_at_call 13
       with_reducible refine (HD.out _ _ _ _ (hR.out.get 3 rfl)).mono ?_
       rintro e w1 ⟨ad2, cd2, rfl, b1, o1⟩
       have hbs := hR.out.bs
       replace hR := Lib.hid (hR.out.next b1)
       try replace hA := Lib.hid (hA.out.next b1)
       try replace hM := Lib.hid (hM.out.next b1)
       try replace hK := Lib.hid (hK.out.next b1)
       replace hR := Lib.hid (hR.out.addr o1 hbs (.inr rfl))
       clear b1 o1 hbs)
    | (go_at_call 14
       with_reducible refine (keptInts w _ w.heap.size _ ([] ++ [⟨aa, A, ca⟩] ++ [⟨ab, B, cb'⟩]) ([] ++ [y1] ++ [y2]) [] [] ad gc gc.length cd rfl (by have := S1.out; omega) hK.out (hR.out.get 5 rfl) (fun y hy => by simp at hy) (by simp)).mono ?_
       rintro e w1 ⟨rfl, b1, ⟨J1, t1⟩, z1, k1⟩
       replace hR := Lib.hid (hR.out.turn hK.out.book b1 t1 (by decide) (by decide))
       replace hK := Lib.hid k1
       clear b1 t1 k1)
    | (go_at_call 15
       with_reducible refine (HE.out _ _ _ _ (hR.out.get 3 rfl)).mono ?_
       rintro e w1 ⟨ae, ce, rfl, b1, o1⟩
       have hbs := hR.out.bs
       have HDE := Lib.hid (off_new (hR.out.get 5 rfl) o1)
       replace hR := Lib.hid (hR.out.next b1)
       try replace hA := Lib.hid (hA.out.next b1)
       try replace hM := Lib.hid (hM.out.next b1)
       try replace hK := Lib.hid (hK.out.next b1)
       replace hR := Lib.hid (hR.out.addr o1 hbs (.inr rfl))
       clear b1 o1 hbs)
    | (go_at_call 16
       with_reducible refine (HE2.out _ _ _ _ (hR.out.get 3 rfl)).mono ?_
       rintro e w1 ⟨ae2, ce2, rfl, b1, o1⟩
       have hbs := hR.out.bs
       replace hR := Lib.hid (hR.out.next b1)
       try replace hA := Lib.hid (hA.out.next b1)
       try replace hM := Lib.hid (hM.out.next b1)
       try replace hK := Lib.hid (hK.out.next b1)
       replace hR := Lib.hid (hR.out.addr o1 hbs (.inr rfl))
       clear b1 o1 hbs)
    | (go_at_call 14
       with_reducible refine (keptInts w _ w.heap.size _ ([] ++ [⟨aa, A, ca⟩] ++ [⟨ab, B, cb'⟩]) ([] ++ [y1] ++ [y2]) ([] ++ [⟨ad, gc, cd⟩]) ([] ++ [z1]) ae ge ge.length ce rfl (by have := S2.out; omega) hK.out (hR.out.get 7 rfl) (fun y hy g e1 e2 => by
         obtain rfl : y = ⟨ad, gc, cd⟩ := by simpa using hy
         rw [IL.cell, blk_is] at e1
         rw [blk_is] at e2
         exact Off.no HDE.out e1 e2) (by simp)).mono ?_
       rintro e w1 ⟨rfl, b1, ⟨J1, t1⟩, z2, k1⟩
       replace hR := Lib.hid (hR.out.turn hK.out.book b1 t1 (by decide) (by decide))
       replace hK := Lib.hid k1
       clear b1 t1 k1)
    | (go_at_call 15
       with_reducible refine (HF.out _ _ _ _ (hR.out.get 4 rfl)).mono ?_
       rintro e w1 ⟨af, cf, rfl, b1, o1⟩
       have hbs := hR.out.bs
       have HDF := Lib.hid (off_new (hR.out.get 5 rfl) o1)
       have HEF := Lib.hid (off_new (hR.out.get 7 rfl) o1)
       replace hR := Lib.hid (hR.out.next b1)
       try replace hA := Lib.hid (hA.out.next b1)
       try replace hM := Lib.hid (hM.out.next b1)
       try replace hK := Lib.hid (hK.out.next b1)
       replace hR := Lib.hid (hR.out.addr o1 hbs (.inr rfl))
       clear b1 o1 hbs)
    | (go_at_call 16
       with_reducible refine (HF2.out _ _ _ _ (hR.out.get 4 rfl)).mono ?_
       rintro e w1 ⟨af2, cf2, rfl, b1, o1⟩
       have hbs := hR.out.bs
       replace hR := Lib.hid (hR.out.next b1)
       try replace hA := Lib.hid (hA.out.next b1)
       try replace hM := Lib.hid (hM.out.next b1)
       try replace hK := Lib.hid (hK.out.next b1)
       replace hR := Lib.hid (hR.out.addr o1 hbs (.inr rfl))
       clear b1 o1 hbs)
    | (go_at_call 14
       with_reducible refine (keptInts w _ w.heap.size _ ([] ++ [⟨aa, A, ca⟩] ++ [⟨ab, B, cb'⟩]) ([] ++ [y1] ++ [y2]) ([] ++ [⟨ad, gc, cd⟩] ++ [⟨ae, ge, ce⟩]) ([] ++ [z1] ++ [z2]) af gf gf.length cf rfl (by have := S3.out; omega) hK.out (hR.out.get 9 rfl) (fun y hy g e1 e2 => by
         have hy2 : y = ⟨ad, gc, cd⟩ ∨ y = ⟨ae, ge, ce⟩ := by simpa using hy
         rw [blk_is] at e2
         rcases hy2 with rfl | rfl
         · rw [IL.cell, blk_is] at e1
           exact Off.no HDF.out e1 e2
         · rw [IL.cell, blk_is] at e1
           exact Off.no HEF.out e1 e2) (by simp)).mono ?_
       rintro e w1 ⟨rfl, b1, ⟨J1, t1⟩, z3, k1⟩
       replace hR := Lib.hid (hR.out.turn hK.out.book b1 t1 (by decide) (by decide))
       replace hK := Lib.hid k1
       clear b1 t1 k1)
    | (go_at_call 17
       with_reducible refine (sameInts gc gc.length _ _ ad ad2 _ rfl (by have := S1.out; omega) (own_lies (hR.out.get 5 rfl)) (own_lies (hR.out.get 6 rfl))).mono ?_
       rintro e w1 ⟨rfl, b1⟩
       replace hR := Lib.hid (hR.out.next b1)
       try replace hA := Lib.hid (hA.out.next b1)
       try replace hM := Lib.hid (hM.out.next b1)
       try replace hK := Lib.hid (hK.out.next b1)
       clear b1)
    | (go_at_call 17
       with_reducible refine (sameInts ge ge.length _ _ ae ae2 _ rfl (by have := S2.out; omega) (own_lies (hR.out.get 7 rfl)) (own_lies (hR.out.get 8 rfl))).mono ?_
       rintro e w1 ⟨rfl, b1⟩
       replace hR := Lib.hid (hR.out.next b1)
       try replace hA := Lib.hid (hA.out.next b1)
       try replace hM := Lib.hid (hM.out.next b1)
       try replace hK := Lib.hid (hK.out.next b1)
       clear b1)
    | (go_at_call 17
       with_reducible refine (sameInts gf gf.length _ _ af af2 _ rfl (by have := S3.out; omega) (own_lies (hR.out.get 9 rfl)) (own_lies (hR.out.get 10 rfl))).mono ?_
       rintro e w1 ⟨rfl, b1⟩
       replace hR := Lib.hid (hR.out.next b1)
       try replace hA := Lib.hid (hA.out.next b1)
       try replace hM := Lib.hid (hM.out.next b1)
       try replace hK := Lib.hid (hK.out.next b1)
       clear b1)
    | (go_at_call 18
       refine (apart_is w _ w.heap.size _ _ _ _ _ hK.out (by simp) (by simp)).mono ?_
       rintro e w1 ⟨rfl, b1⟩
       have hEnd := Lib.hid b1
       clear b1))
  all_goals
    go_ret
    exact ⟨rfl, hEnd.out⟩
set_option maxRecDepth 100000 in
set_option maxHeartbeats 8000000 in
theorem Tells_pad_flat (no v most u at_ cb : Int) (hcb0 : 0 ≤ cb) (hcb1 : cb < 256) (a3 a4 : Option Addr) (la lb : List Int) (c3 c4 : Nat) (w : World) (ha : LiesAt w a3 (vals la)) (hb : LiesAt w a4 (vals lb)) (h3 : la.length ≤ 30) (h4 : lb.length ≤ 30) (ok : pgOk no v (padL la) = true) :
    Calls Try.prog 3 #[.int .i64 no, .int .i64 v, .int .i64 most, .slice a3 la.length c3, .slice a4 lb.length c4, .int .i64 u, .bool false, .int .i64 0, .int .i64 at_, .int .u8 cb] w fun e w' => e = .returned (.bool true) ∧ Below w.heap.size w w' := by
  have hR : Hid (Rows w w w.heap.size []) := Lib.hid ⟨Below.refl _ _, Nat.le_refl _, fun r hr => by simp at hr⟩
  have HV := Lib.hid (fun z => alive_is z)
  have hi3 : (la.length : Int) ≤ 30 := by omega
  have hi4 : (lb.length : Int) ≤ 30 := by omega
  have HSA := Lib.hid (fun z (q : Below w.heap.size w z) => sixteen_is a3 la c3 z (ha.below q))
  have HSB := Lib.hid (fun z (q : Below w.heap.size w z) => sixteen_is a4 lb c4 z (hb.below q))
  obtain ⟨l1, hl1⟩ : ∃ l1, l1 = (padL la) := ⟨_, rfl⟩
  obtain ⟨m1, hm1⟩ : ∃ m1, m1 = (padL lb) := ⟨_, rfl⟩
  rw [← hl1] at ok
  have L1 : Hid (l1.length = 16) := Lib.hid (by rw [hl1]; exact padL_len _)
  have M1 : Hid (m1.length = 16) := Lib.hid (by rw [hm1]; exact padL_len _)
  have HNA := Lib.hid hl1.symm
  have HNB := Lib.hid hm1.symm
  have HL := Lib.hid (fun (a : Option Addr) (c : Nat) z (q : LiesAt z a (vals l1)) => lentI a l1 16 c z L1.out (by omega) q)
  obtain ⟨A, hAe⟩ : ∃ A, pgL no v l1 = A := ⟨_, rfl⟩
  obtain ⟨B, hBe⟩ : ∃ B, pgL no u m1 = B := ⟨_, rfl⟩
  obtain ⟨kB, hkB⟩ : ∃ kB, pgOk no u m1 = kB := ⟨_, rfl⟩
  obtain ⟨nB, hnB⟩ : ∃ nB, B.length = nB := ⟨_, rfl⟩
  have hnB3 : nB ≤ 3 := by rw [← hnB, ← hBe]; unfold pgL; split <;> simp [parts]
  have LB := Lib.hid hnB
  have LA : Hid (A.length = 3) := Lib.hid (by rw [← hAe, pgL_yes ok]; rfl)
  have HP1 := Lib.hid (fun (a : Option Addr) (c : Nat) z (q : LiesAt z a (vals l1)) => wpput_is no v a l1 16 c z L1.out (by omega) q true ok A hAe 3 LA.out)
  have HP2 := Lib.hid (fun (a : Option Addr) (c : Nat) z (q : LiesAt z a (vals m1)) => wpput_is no u a m1 16 c z M1.out (by omega) q kB hkB B hBe nB LB.out)
  have HR1 := Lib.hid (fun (a : Option Addr) (c : Nat) z (q : LiesAt z a (vals l1)) => wrpage_is no v a l1 16 c z L1.out (by omega) q true ok A hAe 3 LA.out)
  have HR2 := Lib.hid (fun (a : Option Addr) (c : Nat) z (q : LiesAt z a (vals m1)) => wrpage_is no u a m1 16 c z M1.out (by omega) q kB hkB B hBe nB LB.out)
  obtain ⟨gn, hgn⟩ : ∃ x, getN A = x := ⟨_, rfl⟩
  obtain ⟨gv, hgv⟩ : ∃ x, getV A = x := ⟨_, rfl⟩
  obtain ⟨gk, hgk⟩ : ∃ x, pgIs A = x := ⟨_, rfl⟩
  obtain ⟨gc, hgc⟩ : ∃ x, getC A = x := ⟨_, rfl⟩
  obtain ⟨ke, hke⟩ : ∃ x, atIs no most A = x := ⟨_, rfl⟩
  obtain ⟨ge, hge⟩ : ∃ x, atC no most A = x := ⟨_, rfl⟩
  obtain ⟨kf, hkf⟩ : ∃ x, atIs no u B = x := ⟨_, rfl⟩
  obtain ⟨gf, hgf⟩ : ∃ x, atC no u B = x := ⟨_, rfl⟩
  have S1 : Hid (gc.length ≤ 16) := Lib.hid (by rw [← hgc]; exact getC_small _)
  have S2 : Hid (ge.length ≤ 16) := Lib.hid (by rw [← hge]; exact atC_small _ _ _)
  have S3 : Hid (gf.length ≤ 16) := Lib.hid (by rw [← hgf]; exact atC_small _ _ _)
  have HG := Lib.hid (fun (a : Option Addr) (c b : Nat) z (q : z.ownsRow b 9 1 (.slice a 3 c) 3 (txts A)) => wpget_is a A 3 c b z LA.out (by omega) q gn gv gk gc hgn hgv hgk hgc)
  have HD := Lib.hid (fun (a : Option Addr) (c b : Nat) z (q : z.ownsRow b 9 1 (.slice a 3 c) 3 (txts A)) => wrpaged_is a A 3 c b z LA.out (by omega) q gn gv gk gc hgn hgv hgk hgc)
  have HE := Lib.hid (fun (a : Option Addr) (c b : Nat) z (q : z.ownsRow b 9 1 (.slice a 3 c) 3 (txts A)) => wpat_is no most a A 3 c b z LA.out (by omega) q ke ge hke hge)
  have HE2 := Lib.hid (fun (a : Option Addr) (c b : Nat) z (q : z.ownsRow b 9 1 (.slice a 3 c) 3 (txts A)) => wrat_is no most a A 3 c b z LA.out (by omega) q ke ge hke hge)
  have HF := Lib.hid (fun (a : Option Addr) (c b : Nat) z (q : z.ownsRow b 9 1 (.slice a nB c) nB (txts B)) => wpat_is no u a B nB c b z LB.out (by omega) q kf gf hkf hgf)
  have HF2 := Lib.hid (fun (a : Option Addr) (c b : Nat) z (q : z.ownsRow b 9 1 (.slice a nB c) nB (txts B)) => wrat_is no u a B nB c b z LB.out (by omega) q kf gf hkf hgf)
  clear ha hb ok hAe hBe hkB hnB hgn hgv hgk hgc hke hge hkf hgf
  clear hl1 hm1
  go_enter Try.func3, Try.ntmps3
  go_wp2_with (first
    | (go_at_call 4
       refine (HV.out _).mono ?_
       rintro e w1 ⟨rfl, b1⟩
       replace hR := Lib.hid (hR.out.next b1)
       try replace hA := Lib.hid (hA.out.next b1)
       try replace hM := Lib.hid (hM.out.next b1)
       try replace hK := Lib.hid (hK.out.next b1)
       clear b1)
    | (go_at_call 5
       with_reducible refine (HSA.out _ hR.out.below).mono ?_
       rintro e w1 ⟨x, rfl, b1, o1⟩
       obtain ⟨g1, d1, rfl, _⟩ := own_some o1 (show 0 < 16 by omega)
       replace hR := Lib.hid (hR.out.next b1)
       try replace hA := Lib.hid (hA.out.next b1)
       try replace hM := Lib.hid (hM.out.next b1)
       try replace hK := Lib.hid (hK.out.next b1)
       have hA := Lib.hid (show KeptI w _ (some ⟨g1, 0, none⟩) (padL la) from KeptI.made o1)
       rw [HNA.out] at hA
       clear b1 o1)
    | (go_at_call 5
       with_reducible refine (HSB.out _ hR.out.below).mono ?_
       rintro e w1 ⟨x, rfl, b1, o1⟩
       obtain ⟨g2, d2, rfl, _⟩ := own_some o1 (show 0 < 16 by omega)
       replace hR := Lib.hid (hR.out.next b1)
       try replace hA := Lib.hid (hA.out.next b1)
       try replace hM := Lib.hid (hM.out.next b1)
       try replace hK := Lib.hid (hK.out.next b1)
       have hM := Lib.hid (show KeptI w _ (some ⟨g2, 0, none⟩) (padL lb) from KeptI.made o1)
       rw [HNB.out] at hM
       clear b1 o1)
    | (go_at_call 6
       refine (HL.out _ _ _ hA.out.lies).mono ?_
       rintro e w1 ⟨gx, cx, rfl, b1, o1⟩
       have hbs := hR.out.bs
       replace hR := Lib.hid (hR.out.next b1)
       try replace hA := Lib.hid (hA.out.next b1)
       try replace hM := Lib.hid (hM.out.next b1)
       try replace hK := Lib.hid (hK.out.next b1)
       replace hR := Lib.hid (hR.out.addr o1 hbs (.inr rfl))
       clear b1 o1 hbs
       have hK := Lib.hid (book_start w w1 hR.out.below)
       have b1 := (Below.refl w1.heap.size w1).alloc (Nat.le_refl _) (.cells #[.slice none 0 0, .slice none 0 0, .slice none 0 0, .slice none 0 0, .slice none 0 0, .slice none 0 0, .slice none 0 0, .slice none 0 0, .slice none 0 0, .slice none 0 0, .slice none 0 0, .slice none 0 0] 33)
       replace hR := Lib.hid (hR.out.next b1)
       replace hA := Lib.hid (hA.out.next b1)
       replace hM := Lib.hid (hM.out.next b1)
       clear b1)
    | (go_at_call 7
       with_reducible refine (HP1.out _ _ _ (lent_lies (hR.out.get 0 rfl))).mono ?_
       rintro e w1 ⟨aa, ca, rfl, b1, o1⟩
       have hbs := hR.out.bs
       replace hR := Lib.hid (hR.out.next b1)
       try replace hA := Lib.hid (hA.out.next b1)
       try replace hM := Lib.hid (hM.out.next b1)
       try replace hK := Lib.hid (hK.out.next b1)
       replace hR := Lib.hid (hR.out.addr o1 hbs (.inl rfl))
       clear b1 o1 hbs)
    | (go_at_call 7
       with_reducible refine (HP2.out _ _ _ hM.out.lies).mono ?_
       rintro e w1 ⟨ab, cb', rfl, b1, o1⟩
       have hbs := hR.out.bs
       have HAB := Lib.hid (off_new (hR.out.get 1 rfl) o1)
       replace hR := Lib.hid (hR.out.next b1)
       try replace hA := Lib.hid (hA.out.next b1)
       try replace hM := Lib.hid (hM.out.next b1)
       try replace hK := Lib.hid (hK.out.next b1)
       replace hR := Lib.hid (hR.out.addr o1 hbs (.inl rfl))
       clear b1 o1 hbs)
    | (go_at_call 8
       with_reducible refine (HR1.out _ _ _ hA.out.lies).mono ?_
       rintro e w1 ⟨ap, cp, rfl, b1, o1⟩
       have hbs := hR.out.bs
       replace hR := Lib.hid (hR.out.next b1)
       try replace hA := Lib.hid (hA.out.next b1)
       try replace hM := Lib.hid (hM.out.next b1)
       try replace hK := Lib.hid (hK.out.next b1)
       replace hR := Lib.hid (hR.out.addr o1 hbs (.inl rfl))
       clear b1 o1 hbs)
    | (go_at_call 8
       with_reducible refine (HR2.out _ _ _ hM.out.lies).mono ?_
       rintro e w1 ⟨aq, cq, rfl, b1, o1⟩
       have hbs := hR.out.bs
       replace hR := Lib.hid (hR.out.next b1)
       try replace hA := Lib.hid (hA.out.next b1)
       try replace hM := Lib.hid (hM.out.next b1)
       try replace hK := Lib.hid (hK.out.next b1)
       replace hR := Lib.hid (hR.out.addr o1 hbs (.inl rfl))
       clear b1 o1 hbs)
    | (go_at_call 9
       with_reducible refine (keptTexts w _ w.heap.size _ [] [] [] [] aa A 3 ca LA.out (by omega) hK.out (hR.out.get 1 rfl) (fun y hy => by simp at hy) (by simp)).mono ?_
       rintro e w1 ⟨rfl, b1, ⟨J1, t1⟩, y1, k1⟩
       clear hM
       replace hA := Lib.hid (KeptI.turn hA.out hK.out.book t1 (hR.out.below.trans b1) (by decide))
       replace hR := Lib.hid (hR.out.turn hK.out.book b1 t1 (by decide) (by decide))
       replace hK := Lib.hid k1
       clear b1 t1 k1)
    | (go_at_call 9
       with_reducible refine (keptTexts w _ w.heap.size _ ([] ++ [⟨aa, A, ca⟩]) ([] ++ [y1]) [] [] ab B nB cb' LB.out (by omega) hK.out (hR.out.get 2 rfl) (fun y hy g e1 e2 => by
         obtain rfl : y = ⟨aa, A, ca⟩ := by simpa using hy
         rw [TL.cell, blk_is] at e1
         rw [blk_is] at e2
         exact Off.no HAB.out e1 e2) (by simp)).mono ?_
       rintro e w1 ⟨rfl, b1, ⟨J1, t1⟩, y2, k1⟩
       replace hA := Lib.hid (KeptI.turn hA.out hK.out.book t1 (hR.out.below.trans b1) (by decide))
       replace hR := Lib.hid (hR.out.turn hK.out.book b1 t1 (by decide) (by decide))
       replace hK := Lib.hid k1
       clear b1 t1 k1)
    | (go_at_call 10
       with_reducible refine (sameTexts A 3 _ _ _ _ _ LA.out (by omega) (own_lies (hR.out.get 1 rfl)) (own_lies (hR.out.get 3 rfl))).mono ?_
       rintro e w1 ⟨rfl, b1⟩
       replace hR := Lib.hid (hR.out.next b1)
       try replace hA := Lib.hid (hA.out.next b1)
       try replace hM := Lib.hid (hM.out.next b1)
       try replace hK := Lib.hid (hK.out.next b1)
       clear b1)
    | (go_at_call 10
       with_reducible refine (sameTexts B nB _ _ _ _ _ LB.out (by omega) (own_lies (hR.out.get 2 rfl)) (own_lies (hR.out.get 4 rfl))).mono ?_
       rintro e w1 ⟨rfl, b1⟩
       replace hR := Lib.hid (hR.out.next b1)
       try replace hA := Lib.hid (hA.out.next b1)
       try replace hM := Lib.hid (hM.out.next b1)
       try replace hK := Lib.hid (hK.out.next b1)
       clear b1)
    | (go_at_call 11
       refine (staysI _ _ _ 16 _ l1 _ _ L1.out (by omega) (hR.out.get 0 rfl) hA.out.lies).mono ?_
       rintro e w1 ⟨rfl, b1⟩
       replace hR := Lib.hid (hR.out.next b1)
       try replace hA := Lib.hid (hA.out.next b1)
       try replace hM := Lib.hid (hM.out.next b1)
       try replace hK := Lib.hid (hK.out.next b1)
       clear b1 hA)
    | (go_at_call 12
       with_reducible refine (HG.out _ _ _ _ (hR.out.get 3 rfl)).mono ?_
       rintro e w1 ⟨ad, cd, rfl, b1, o1⟩
       have hbs := hR.out.bs
       replace hR := Lib.hid (hR.out.next b1)
       try replace hA := Lib.hid (hA.out.next b1)
       try replace hM := Lib.hid (hM.out.next b1)
       try replace hK := Lib.hid (hK.out.next b1)
       replace hR := Lib.hid (hR.out.addr o1 hbs (.inr rfl))
       clear b1 o1 hbs)
    | (go_at_call 13
       with_reducible refine (HD.out _ _ _ _ (hR.out.get 3 rfl)).mono ?_
       rintro e w1 ⟨ad2, cd2, rfl, b1, o1⟩
       have hbs := hR.out.bs
       replace hR := Lib.hid (hR.out.next b1)
       try replace hA := Lib.hid (hA.out.next b1)
       try replace hM := Lib.hid (hM.out.next b1)
       try replace hK := Lib.hid (hK.out.next b1)
       replace hR := Lib.hid (hR.out.addr o1 hbs (.inr rfl))
       clear b1 o1 hbs)
    | (go_at_call 14
       with_reducible refine (keptInts w _ w.heap.size _ ([] ++ [⟨aa, A, ca⟩] ++ [⟨ab, B, cb'⟩]) ([] ++ [y1] ++ [y2]) [] [] ad gc gc.length cd rfl (by have := S1.out; omega) hK.out (hR.out.get 5 rfl) (fun y hy => by simp at hy) (by simp)).mono ?_
       rintro e w1 ⟨rfl, b1, ⟨J1, t1⟩, z1, k1⟩
       replace hR := Lib.hid (hR.out.turn hK.out.book b1 t1 (by decide) (by decide))
       replace hK := Lib.hid k1
       clear b1 t1 k1)
    | (go_at_call 15
       with_reducible refine (HE.out _ _ _ _ (hR.out.get 3 rfl)).mono ?_
       rintro e w1 ⟨ae, ce, rfl, b1, o1⟩
       have hbs := hR.out.bs
       have HDE := Lib.hid (off_new (hR.out.get 5 rfl) o1)
       replace hR := Lib.hid (hR.out.next b1)
       try replace hA := Lib.hid (hA.out.next b1)
       try replace hM := Lib.hid (hM.out.next b1)
       try replace hK := Lib.hid (hK.out.next b1)
       replace hR := Lib.hid (hR.out.addr o1 hbs (.inr rfl))
       clear b1 o1 hbs)
    | (go_at_call 16
       with_reducible refine (HE2.out _ _ _ _ (hR.out.get 3 rfl)).mono ?_
       rintro e w1 ⟨ae2, ce2, rfl, b1, o1⟩
       have hbs := hR.out.bs
       replace hR := Lib.hid (hR.out.next b1)
       try replace hA := Lib.hid (hA.out.next b1)
       try replace hM := Lib.hid (hM.out.next b1)
       try replace hK := Lib.hid (hK.out.next b1)
       replace hR := Lib.hid (hR.out.addr o1 hbs (.inr rfl))
       clear b1 o1 hbs)
    | (go_at_call 14
       with_reducible refine (keptInts w _ w.heap.size _ ([] ++ [⟨aa, A, ca⟩] ++ [⟨ab, B, cb'⟩]) ([] ++ [y1] ++ [y2]) ([] ++ [⟨ad, gc, cd⟩]) ([] ++ [z1]) ae ge ge.length ce rfl (by have := S2.out; omega) hK.out (hR.out.get 7 rfl) (fun y hy g e1 e2 => by
         obtain rfl : y = ⟨ad, gc, cd⟩ := by simpa using hy
         rw [IL.cell, blk_is] at e1
         rw [blk_is] at e2
         exact Off.no HDE.out e1 e2) (by simp)).mono ?_
       rintro e w1 ⟨rfl, b1, ⟨J1, t1⟩, z2, k1⟩
       replace hR := Lib.hid (hR.out.turn hK.out.book b1 t1 (by decide) (by decide))
       replace hK := Lib.hid k1
       clear b1 t1 k1)
    | (go_at_call 15
       with_reducible refine (HF.out _ _ _ _ (hR.out.get 4 rfl)).mono ?_
       rintro e w1 ⟨af, cf, rfl, b1, o1⟩
       have hbs := hR.out.bs
       have HDF := Lib.hid (off_new (hR.out.get 5 rfl) o1)
       have HEF := Lib.hid (off_new (hR.out.get 7 rfl) o1)
       replace hR := Lib.hid (hR.out.next b1)
       try replace hA := Lib.hid (hA.out.next b1)
       try replace hM := Lib.hid (hM.out.next b1)
       try replace hK := Lib.hid (hK.out.next b1)
       replace hR := Lib.hid (hR.out.addr o1 hbs (.inr rfl))
       clear b1 o1 hbs)
    | (go_at_call 16
       with_reducible refine (HF2.out _ _ _ _ (hR.out.get 4 rfl)).mono ?_
       rintro e w1 ⟨af2, cf2, rfl, b1, o1⟩
       have hbs := hR.out.bs
       replace hR := Lib.hid (hR.out.next b1)
       try replace hA := Lib.hid (hA.out.next b1)
       try replace hM := Lib.hid (hM.out.next b1)
       try replace hK := Lib.hid (hK.out.next b1)
       replace hR := Lib.hid (hR.out.addr o1 hbs (.inr rfl))
       clear b1 o1 hbs)
    | (go_at_call 14
       with_reducible refine (keptInts w _ w.heap.size _ ([] ++ [⟨aa, A, ca⟩] ++ [⟨ab, B, cb'⟩]) ([] ++ [y1] ++ [y2]) ([] ++ [⟨ad, gc, cd⟩] ++ [⟨ae, ge, ce⟩]) ([] ++ [z1] ++ [z2]) af gf gf.length cf rfl (by have := S3.out; omega) hK.out (hR.out.get 9 rfl) (fun y hy g e1 e2 => by
         have hy2 : y = ⟨ad, gc, cd⟩ ∨ y = ⟨ae, ge, ce⟩ := by simpa using hy
         rw [blk_is] at e2
         rcases hy2 with rfl | rfl
         · rw [IL.cell, blk_is] at e1
           exact Off.no HDF.out e1 e2
         · rw [IL.cell, blk_is] at e1
           exact Off.no HEF.out e1 e2) (by simp)).mono ?_
       rintro e w1 ⟨rfl, b1, ⟨J1, t1⟩, z3, k1⟩
       replace hR := Lib.hid (hR.out.turn hK.out.book b1 t1 (by decide) (by decide))
       replace hK := Lib.hid k1
       clear b1 t1 k1)
    | (go_at_call 17
       with_reducible refine (sameInts gc gc.length _ _ ad ad2 _ rfl (by have := S1.out; omega) (own_lies (hR.out.get 5 rfl)) (own_lies (hR.out.get 6 rfl))).mono ?_
       rintro e w1 ⟨rfl, b1⟩
       replace hR := Lib.hid (hR.out.next b1)
       try replace hA := Lib.hid (hA.out.next b1)
       try replace hM := Lib.hid (hM.out.next b1)
       try replace hK := Lib.hid (hK.out.next b1)
       clear b1)
    | (go_at_call 17
       with_reducible refine (sameInts ge ge.length _ _ ae ae2 _ rfl (by have := S2.out; omega) (own_lies (hR.out.get 7 rfl)) (own_lies (hR.out.get 8 rfl))).mono ?_
       rintro e w1 ⟨rfl, b1⟩
       replace hR := Lib.hid (hR.out.next b1)
       try replace hA := Lib.hid (hA.out.next b1)
       try replace hM := Lib.hid (hM.out.next b1)
       try replace hK := Lib.hid (hK.out.next b1)
       clear b1)
    | (go_at_call 17
       with_reducible refine (sameInts gf gf.length _ _ af af2 _ rfl (by have := S3.out; omega) (own_lies (hR.out.get 9 rfl)) (own_lies (hR.out.get 10 rfl))).mono ?_
       rintro e w1 ⟨rfl, b1⟩
       replace hR := Lib.hid (hR.out.next b1)
       try replace hA := Lib.hid (hA.out.next b1)
       try replace hM := Lib.hid (hM.out.next b1)
       try replace hK := Lib.hid (hK.out.next b1)
       clear b1)
    | (go_at_call 18
       refine (apart_is w _ w.heap.size _ _ _ _ _ hK.out (by simp) (by simp)).mono ?_
       rintro e w1 ⟨rfl, b1⟩
       have hEnd := Lib.hid b1
       clear b1))
  all_goals
    go_ret
    exact ⟨rfl, hEnd.out⟩
set_option maxRecDepth 100000 in
set_option maxHeartbeats 8000000 in
theorem Tells_pad_no (no v most u at_ cb : Int) (hcb0 : 0 ≤ cb) (hcb1 : cb < 256) (a3 a4 : Option Addr) (la lb : List Int) (c3 c4 : Nat) (w : World) (ha : LiesAt w a3 (vals la)) (hb : LiesAt w a4 (vals lb)) (h3 : la.length ≤ 30) (h4 : lb.length ≤ 30) (ok : pgOk no v (padL la) = false) (sp : Int) :
    Calls Try.prog 3 #[.int .i64 no, .int .i64 v, .int .i64 most, .slice a3 la.length c3, .slice a4 lb.length c4, .int .i64 u, .bool false, .int .i64 sp, .int .i64 at_, .int .u8 cb] w fun e w' => e = .returned (.bool true) ∧ Below w.heap.size w w' := by
  have hR : Hid (Rows w w w.heap.size []) := Lib.hid ⟨Below.refl _ _, Nat.le_refl _, fun r hr => by simp at hr⟩
  have HV := Lib.hid (fun z => alive_is z)
  have hi3 : (la.length : Int) ≤ 30 := by omega
  have hi4 : (lb.length : Int) ≤ 30 := by omega
  have HSA := Lib.hid (fun z (q : Below w.heap.size w z) => sixteen_is a3 la c3 z (ha.below q))
  have HSB := Lib.hid (fun z (q : Below w.heap.size w z) => sixteen_is a4 lb c4 z (hb.below q))
  obtain ⟨l1, hl1⟩ : ∃ l1, l1 = (padL la) := ⟨_, rfl⟩
  obtain ⟨m1, hm1⟩ : ∃ m1, m1 = (padL lb) := ⟨_, rfl⟩
  rw [← hl1] at ok
  have L1 : Hid (l1.length = 16) := Lib.hid (by rw [hl1]; exact padL_len _)
  have M1 : Hid (m1.length = 16) := Lib.hid (by rw [hm1]; exact padL_len _)
  have HNA := Lib.hid hl1.symm
  have HNB := Lib.hid hm1.symm
  have HL := Lib.hid (fun (a : Option Addr) (c : Nat) z (q : LiesAt z a (vals l1)) => lentI a l1 16 c z L1.out (by omega) q)
  obtain ⟨A, hAe⟩ : ∃ A, pgL no v l1 = A := ⟨_, rfl⟩
  obtain ⟨B, hBe⟩ : ∃ B, pgL no u m1 = B := ⟨_, rfl⟩
  obtain ⟨kB, hkB⟩ : ∃ kB, pgOk no u m1 = kB := ⟨_, rfl⟩
  obtain ⟨nB, hnB⟩ : ∃ nB, B.length = nB := ⟨_, rfl⟩
  have hnB3 : nB ≤ 3 := by rw [← hnB, ← hBe]; unfold pgL; split <;> simp [parts]
  have LB := Lib.hid hnB
  have LA : Hid (A.length = 0) := Lib.hid (by rw [← hAe, pgL_no ok]; rfl)
  have HP1 := Lib.hid (fun (a : Option Addr) (c : Nat) z (q : LiesAt z a (vals l1)) => wpput_is no v a l1 16 c z L1.out (by omega) q false ok A hAe 0 LA.out)
  have HP2 := Lib.hid (fun (a : Option Addr) (c : Nat) z (q : LiesAt z a (vals m1)) => wpput_is no u a m1 16 c z M1.out (by omega) q kB hkB B hBe nB LB.out)
  have HR1 := Lib.hid (fun (a : Option Addr) (c : Nat) z (q : LiesAt z a (vals l1)) => wrpage_is no v a l1 16 c z L1.out (by omega) q false ok A hAe 0 LA.out)
  have HR2 := Lib.hid (fun (a : Option Addr) (c : Nat) z (q : LiesAt z a (vals m1)) => wrpage_is no u a m1 16 c z M1.out (by omega) q kB hkB B hBe nB LB.out)
  obtain ⟨gn, hgn⟩ : ∃ x, getN A = x := ⟨_, rfl⟩
  obtain ⟨gv, hgv⟩ : ∃ x, getV A = x := ⟨_, rfl⟩
  obtain ⟨gk, hgk⟩ : ∃ x, pgIs A = x := ⟨_, rfl⟩
  obtain ⟨gc, hgc⟩ : ∃ x, getC A = x := ⟨_, rfl⟩
  obtain ⟨ke, hke⟩ : ∃ x, atIs no most A = x := ⟨_, rfl⟩
  obtain ⟨ge, hge⟩ : ∃ x, atC no most A = x := ⟨_, rfl⟩
  obtain ⟨kf, hkf⟩ : ∃ x, atIs no u B = x := ⟨_, rfl⟩
  obtain ⟨gf, hgf⟩ : ∃ x, atC no u B = x := ⟨_, rfl⟩
  have S1 : Hid (gc.length ≤ 16) := Lib.hid (by rw [← hgc]; exact getC_small _)
  have S2 : Hid (ge.length ≤ 16) := Lib.hid (by rw [← hge]; exact atC_small _ _ _)
  have S3 : Hid (gf.length ≤ 16) := Lib.hid (by rw [← hgf]; exact atC_small _ _ _)
  have HG := Lib.hid (fun (a : Option Addr) (c b : Nat) z (q : z.ownsRow b 9 1 (.slice a 0 c) 0 (txts A)) => wpget_is a A 0 c b z LA.out (by omega) q gn gv gk gc hgn hgv hgk hgc)
  have HD := Lib.hid (fun (a : Option Addr) (c b : Nat) z (q : z.ownsRow b 9 1 (.slice a 0 c) 0 (txts A)) => wrpaged_is a A 0 c b z LA.out (by omega) q gn gv gk gc hgn hgv hgk hgc)
  have HE := Lib.hid (fun (a : Option Addr) (c b : Nat) z (q : z.ownsRow b 9 1 (.slice a 0 c) 0 (txts A)) => wpat_is no most a A 0 c b z LA.out (by omega) q ke ge hke hge)
  have HE2 := Lib.hid (fun (a : Option Addr) (c b : Nat) z (q : z.ownsRow b 9 1 (.slice a 0 c) 0 (txts A)) => wrat_is no most a A 0 c b z LA.out (by omega) q ke ge hke hge)
  have HF := Lib.hid (fun (a : Option Addr) (c b : Nat) z (q : z.ownsRow b 9 1 (.slice a nB c) nB (txts B)) => wpat_is no u a B nB c b z LB.out (by omega) q kf gf hkf hgf)
  have HF2 := Lib.hid (fun (a : Option Addr) (c b : Nat) z (q : z.ownsRow b 9 1 (.slice a nB c) nB (txts B)) => wrat_is no u a B nB c b z LB.out (by omega) q kf gf hkf hgf)
  clear ha hb ok hAe hBe hkB hnB hgn hgv hgk hgc hke hge hkf hgf
  clear hl1 hm1
  go_enter Try.func3, Try.ntmps3
  go_wp2_with (first
    | (go_at_call 4
       refine (HV.out _).mono ?_
       rintro e w1 ⟨rfl, b1⟩
       replace hR := Lib.hid (hR.out.next b1)
       try replace hA := Lib.hid (hA.out.next b1)
       try replace hM := Lib.hid (hM.out.next b1)
       try replace hK := Lib.hid (hK.out.next b1)
       clear b1)
    | (go_at_call 5
       with_reducible refine (HSA.out _ hR.out.below).mono ?_
       rintro e w1 ⟨x, rfl, b1, o1⟩
       obtain ⟨g1, d1, rfl, _⟩ := own_some o1 (show 0 < 16 by omega)
       replace hR := Lib.hid (hR.out.next b1)
       try replace hA := Lib.hid (hA.out.next b1)
       try replace hM := Lib.hid (hM.out.next b1)
       try replace hK := Lib.hid (hK.out.next b1)
       have hA := Lib.hid (show KeptI w _ (some ⟨g1, 0, none⟩) (padL la) from KeptI.made o1)
       rw [HNA.out] at hA
       clear b1 o1)
    | (go_at_call 5
       with_reducible refine (HSB.out _ hR.out.below).mono ?_
       rintro e w1 ⟨x, rfl, b1, o1⟩
       obtain ⟨g2, d2, rfl, _⟩ := own_some o1 (show 0 < 16 by omega)
       replace hR := Lib.hid (hR.out.next b1)
       try replace hA := Lib.hid (hA.out.next b1)
       try replace hM := Lib.hid (hM.out.next b1)
       try replace hK := Lib.hid (hK.out.next b1)
       have hM := Lib.hid (show KeptI w _ (some ⟨g2, 0, none⟩) (padL lb) from KeptI.made o1)
       rw [HNB.out] at hM
       clear b1 o1)
    | (go_at_call 6
       refine (HL.out _ _ _ hA.out.lies).mono ?_
       rintro e w1 ⟨gx, cx, rfl, b1, o1⟩
       have hbs := hR.out.bs
       replace hR := Lib.hid (hR.out.next b1)
       try replace hA := Lib.hid (hA.out.next b1)
       try replace hM := Lib.hid (hM.out.next b1)
       try replace hK := Lib.hid (hK.out.next b1)
       replace hR := Lib.hid (hR.out.addr o1 hbs (.inr rfl))
       clear b1 o1 hbs
       have hK := Lib.hid (book_start w w1 hR.out.below)
       have b1 := (Below.refl w1.heap.size w1).alloc (Nat.le_refl _) (.cells #[.slice none 0 0, .slice none 0 0, .slice none 0 0, .slice none 0 0, .slice none 0 0, .slice none 0 0, .slice none 0 0, .slice none 0 0, .slice none 0 0, .slice none 0 0, .slice none 0 0, .slice none 0 0] 33)
       replace hR := Lib.hid (hR.out.next b1)
       replace hA := Lib.hid (hA.out.next b1)
       replace hM := Lib.hid (hM.out.next b1)
       clear b1)
    | (go_at_call 7
       with_reducible refine (HP1.out _ _ _ (lent_lies (hR.out.get 0 rfl))).mono ?_
       rintro e w1 ⟨aa, ca, rfl, b1, o1⟩
       have hbs := hR.out.bs
       replace hR := Lib.hid (hR.out.next b1)
       try replace hA := Lib.hid (hA.out.next b1)
       try replace hM := Lib.hid (hM.out.next b1)
       try replace hK := Lib.hid (hK.out.next b1)
       replace hR := Lib.hid (hR.out.addr o1 hbs (.inl rfl))
       clear b1 o1 hbs)
    | (go_at_call 7
       with_reducible refine (HP2.out _ _ _ hM.out.lies).mono ?_
       rintro e w1 ⟨ab, cb', rfl, b1, o1⟩
       have hbs := hR.out.bs
       have HAB := Lib.hid (off_new (hR.out.get 1 rfl) o1)
       replace hR := Lib.hid (hR.out.next b1)
       try replace hA := Lib.hid (hA.out.next b1)
       try replace hM := Lib.hid (hM.out.next b1)
       try replace hK := Lib.hid (hK.out.next b1)
       replace hR := Lib.hid (hR.out.addr o1 hbs (.inl rfl))
       clear b1 o1 hbs)
    | (go_at_call 8
       with_reducible refine (HR1.out _ _ _ hA.out.lies).mono ?_
       rintro e w1 ⟨ap, cp, rfl, b1, o1⟩
       have hbs := hR.out.bs
       replace hR := Lib.hid (hR.out.next b1)
       try replace hA := Lib.hid (hA.out.next b1)
       try replace hM := Lib.hid (hM.out.next b1)
       try replace hK := Lib.hid (hK.out.next b1)
       replace hR := Lib.hid (hR.out.addr o1 hbs (.inl rfl))
       clear b1 o1 hbs)
    | (go_at_call 8
       with_reducible refine (HR2.out _ _ _ hM.out.lies).mono ?_
       rintro e w1 ⟨aq, cq, rfl, b1, o1⟩
       have hbs := hR.out.bs
       replace hR := Lib.hid (hR.out.next b1)
       try replace hA := Lib.hid (hA.out.next b1)
       try replace hM := Lib.hid (hM.out.next b1)
       try replace hK := Lib.hid (hK.out.next b1)
       replace hR := Lib.hid (hR.out.addr o1 hbs (.inl rfl))
       clear b1 o1 hbs)
    | (go_at_call 9
       with_reducible refine (keptTexts w _ w.heap.size _ [] [] [] [] aa A 0 ca LA.out (by omega) hK.out (hR.out.get 1 rfl) (fun y hy => by simp at hy) (by simp)).mono ?_
       rintro e w1 ⟨rfl, b1, ⟨J1, t1⟩, y1, k1⟩
       clear hM
       replace hA := Lib.hid (KeptI.turn hA.out hK.out.book t1 (hR.out.below.trans b1) (by decide))
       replace hR := Lib.hid (hR.out.turn hK.out.book b1 t1 (by decide) (by decide))
       replace hK := Lib.hid k1
       clear b1 t1 k1)
    | (go_at_call 9
       with_reducible refine (keptTexts w _ w.heap.size _ ([] ++ [⟨aa, A, ca⟩]) ([] ++ [y1]) [] [] ab B nB cb' LB.out (by omega) hK.out (hR.out.get 2 rfl) (fun y hy g e1 e2 => by
         obtain rfl : y = ⟨aa, A, ca⟩ := by simpa using hy
         rw [TL.cell, blk_is] at e1
         rw [blk_is] at e2
         exact Off.no HAB.out e1 e2) (by simp)).mono ?_
       rintro e w1 ⟨rfl, b1, ⟨J1, t1⟩, y2, k1⟩
       replace hA := Lib.hid (KeptI.turn hA.out hK.out.book t1 (hR.out.below.trans b1) (by decide))
       replace hR := Lib.hid (hR.out.turn hK.out.book b1 t1 (by decide) (by decide))
       replace hK := Lib.hid k1
       clear b1 t1 k1)
    | (go_at_call 10
       with_reducible refine (sameTexts A 0 _ _ _ _ _ LA.out (by omega) (own_lies (hR.out.get 1 rfl)) (own_lies (hR.out.get 3 rfl))).mono ?_
       rintro e w1 ⟨rfl, b1⟩
       replace hR := Lib.hid (hR.out.next b1)
       try replace hA := Lib.hid (hA.out.next b1)
       try replace hM := Lib.hid (hM.out.next b1)
       try replace hK := Lib.hid (hK.out.next b1)
       clear b1)
    | (go_at_call 10
       with_reducible refine (sameTexts B nB _ _ _ _ _ LB.out (by omega) (own_lies (hR.out.get 2 rfl)) (own_lies (hR.out.get 4 rfl))).mono ?_
       rintro e w1 ⟨rfl, b1⟩
       replace hR := Lib.hid (hR.out.next b1)
       try replace hA := Lib.hid (hA.out.next b1)
       try replace hM := Lib.hid (hM.out.next b1)
       try replace hK := Lib.hid (hK.out.next b1)
       clear b1)
    | (go_at_call 11
       refine (staysI _ _ _ 16 _ l1 _ _ L1.out (by omega) (hR.out.get 0 rfl) hA.out.lies).mono ?_
       rintro e w1 ⟨rfl, b1⟩
       replace hR := Lib.hid (hR.out.next b1)
       try replace hA := Lib.hid (hA.out.next b1)
       try replace hM := Lib.hid (hM.out.next b1)
       try replace hK := Lib.hid (hK.out.next b1)
       clear b1 hA)
    | (go_at_call 12
       with_reducible refine (HG.out _ _ _ _ (hR.out.get 3 rfl)).mono ?_
       rintro e w1 ⟨ad, cd, rfl, b1, o1⟩
       have hbs := hR.out.bs
       replace hR := Lib.hid (hR.out.next b1)
       try replace hA := Lib.hid (hA.out.next b1)
       try replace hM := Lib.hid (hM.out.next b1)
       try replace hK := Lib.hid (hK.out.next b1)
       replace hR := Lib.hid (hR.out.addr o1 hbs (.inr rfl))
       clear b1 o1 hbs)
    | (go_at_call 13
       with_reducible refine (HD.out _ _ _ _ (hR.out.get 3 rfl)).mono ?_
       rintro e w1 ⟨ad2, cd2, rfl, b1, o1⟩
       have hbs := hR.out.bs
       replace hR := Lib.hid (hR.out.next b1)
       try replace hA := Lib.hid (hA.out.next b1)
       try replace hM := Lib.hid (hM.out.next b1)
       try replace hK := Lib.hid (hK.out.next b1)
       replace hR := Lib.hid (hR.out.addr o1 hbs (.inr rfl))
       clear b1 o1 hbs)
    | (go_at_call 14
       with_reducible refine (keptInts w _ w.heap.size _ ([] ++ [⟨aa, A, ca⟩] ++ [⟨ab, B, cb'⟩]) ([] ++ [y1] ++ [y2]) [] [] ad gc gc.length cd rfl (by have := S1.out; omega) hK.out (hR.out.get 5 rfl) (fun y hy => by simp at hy) (by simp)).mono ?_
       rintro e w1 ⟨rfl, b1, ⟨J1, t1⟩, z1, k1⟩
       replace hR := Lib.hid (hR.out.turn hK.out.book b1 t1 (by decide) (by decide))
       replace hK := Lib.hid k1
       clear b1 t1 k1)
    | (go_at_call 15
       with_reducible refine (HE.out _ _ _ _ (hR.out.get 3 rfl)).mono ?_
       rintro e w1 ⟨ae, ce, rfl, b1, o1⟩
       have hbs := hR.out.bs
       have HDE := Lib.hid (off_new (hR.out.get 5 rfl) o1)
       replace hR := Lib.hid (hR.out.next b1)
       try replace hA := Lib.hid (hA.out.next b1)
       try replace hM := Lib.hid (hM.out.next b1)
       try replace hK := Lib.hid (hK.out.next b1)
       replace hR := Lib.hid (hR.out.addr o1 hbs (.inr rfl))
       clear b1 o1 hbs)
    | (go_at_call 16
       with_reducible refine (HE2.out _ _ _ _ (hR.out.get 3 rfl)).mono ?_
       rintro e w1 ⟨ae2, ce2, rfl, b1, o1⟩
       have hbs := hR.out.bs
       replace hR := Lib.hid (hR.out.next b1)
       try replace hA := Lib.hid (hA.out.next b1)
       try replace hM := Lib.hid (hM.out.next b1)
       try replace hK := Lib.hid (hK.out.next b1)
       replace hR := Lib.hid (hR.out.addr o1 hbs (.inr rfl))
       clear b1 o1 hbs)
    | (go_at_call 14
       with_reducible refine (keptInts w _ w.heap.size _ ([] ++ [⟨aa, A, ca⟩] ++ [⟨ab, B, cb'⟩]) ([] ++ [y1] ++ [y2]) ([] ++ [⟨ad, gc, cd⟩]) ([] ++ [z1]) ae ge ge.length ce rfl (by have := S2.out; omega) hK.out (hR.out.get 7 rfl) (fun y hy g e1 e2 => by
         obtain rfl : y = ⟨ad, gc, cd⟩ := by simpa using hy
         rw [IL.cell, blk_is] at e1
         rw [blk_is] at e2
         exact Off.no HDE.out e1 e2) (by simp)).mono ?_
       rintro e w1 ⟨rfl, b1, ⟨J1, t1⟩, z2, k1⟩
       replace hR := Lib.hid (hR.out.turn hK.out.book b1 t1 (by decide) (by decide))
       replace hK := Lib.hid k1
       clear b1 t1 k1)
    | (go_at_call 15
       with_reducible refine (HF.out _ _ _ _ (hR.out.get 4 rfl)).mono ?_
       rintro e w1 ⟨af, cf, rfl, b1, o1⟩
       have hbs := hR.out.bs
       have HDF := Lib.hid (off_new (hR.out.get 5 rfl) o1)
       have HEF := Lib.hid (off_new (hR.out.get 7 rfl) o1)
       replace hR := Lib.hid (hR.out.next b1)
       try replace hA := Lib.hid (hA.out.next b1)
       try replace hM := Lib.hid (hM.out.next b1)
       try replace hK := Lib.hid (hK.out.next b1)
       replace hR := Lib.hid (hR.out.addr o1 hbs (.inr rfl))
       clear b1 o1 hbs)
    | (go_at_call 16
       with_reducible refine (HF2.out _ _ _ _ (hR.out.get 4 rfl)).mono ?_
       rintro e w1 ⟨af2, cf2, rfl, b1, o1⟩
       have hbs := hR.out.bs
       replace hR := Lib.hid (hR.out.next b1)
       try replace hA := Lib.hid (hA.out.next b1)
       try replace hM := Lib.hid (hM.out.next b1)
       try replace hK := Lib.hid (hK.out.next b1)
       replace hR := Lib.hid (hR.out.addr o1 hbs (.inr rfl))
       clear b1 o1 hbs)
    | (go_at_call 14
       with_reducible refine (keptInts w _ w.heap.size _ ([] ++ [⟨aa, A, ca⟩] ++ [⟨ab, B, cb'⟩]) ([] ++ [y1] ++ [y2]) ([] ++ [⟨ad, gc, cd⟩] ++ [⟨ae, ge, ce⟩]) ([] ++ [z1] ++ [z2]) af gf gf.length cf rfl (by have := S3.out; omega) hK.out (hR.out.get 9 rfl) (fun y hy g e1 e2 => by
         have hy2 : y = ⟨ad, gc, cd⟩ ∨ y = ⟨ae, ge, ce⟩ := by simpa using hy
         rw [blk_is] at e2
         rcases hy2 with rfl | rfl
         · rw [IL.cell, blk_is] at e1
           exact Off.no HDF.out e1 e2
         · rw [IL.cell, blk_is] at e1
           exact Off.no HEF.out e1 e2) (by simp)).mono ?_
       rintro e w1 ⟨rfl, b1, ⟨J1, t1⟩, z3, k1⟩
       replace hR := Lib.hid (hR.out.turn hK.out.book b1 t1 (by decide) (by decide))
       replace hK := Lib.hid k1
       clear b1 t1 k1)
    | (go_at_call 17
       with_reducible refine (sameInts gc gc.length _ _ ad ad2 _ rfl (by have := S1.out; omega) (own_lies (hR.out.get 5 rfl)) (own_lies (hR.out.get 6 rfl))).mono ?_
       rintro e w1 ⟨rfl, b1⟩
       replace hR := Lib.hid (hR.out.next b1)
       try replace hA := Lib.hid (hA.out.next b1)
       try replace hM := Lib.hid (hM.out.next b1)
       try replace hK := Lib.hid (hK.out.next b1)
       clear b1)
    | (go_at_call 17
       with_reducible refine (sameInts ge ge.length _ _ ae ae2 _ rfl (by have := S2.out; omega) (own_lies (hR.out.get 7 rfl)) (own_lies (hR.out.get 8 rfl))).mono ?_
       rintro e w1 ⟨rfl, b1⟩
       replace hR := Lib.hid (hR.out.next b1)
       try replace hA := Lib.hid (hA.out.next b1)
       try replace hM := Lib.hid (hM.out.next b1)
       try replace hK := Lib.hid (hK.out.next b1)
       clear b1)
    | (go_at_call 17
       with_reducible refine (sameInts gf gf.length _ _ af af2 _ rfl (by have := S3.out; omega) (own_lies (hR.out.get 9 rfl)) (own_lies (hR.out.get 10 rfl))).mono ?_
       rintro e w1 ⟨rfl, b1⟩
       replace hR := Lib.hid (hR.out.next b1)
       try replace hA := Lib.hid (hA.out.next b1)
       try replace hM := Lib.hid (hM.out.next b1)
       try replace hK := Lib.hid (hK.out.next b1)
       clear b1)
    | (go_at_call 18
       refine (apart_is w _ w.heap.size _ _ _ _ _ hK.out (by simp) (by simp)).mono ?_
       rintro e w1 ⟨rfl, b1⟩
       have hEnd := Lib.hid b1
       clear b1))
  all_goals
    go_ret
    exact ⟨rfl, hEnd.out⟩
end Go.Proofs.Ytgmjphekfhiapaa
