/- AllocObjs, AllocLaws -/
import Derived.Test.YtooligoacgemlaaGreatDoorZAllocA
import Derived.Test.YtooligoacgemlaaGreatDoorZHeapC
import Derived.Test.YtooligoacgemlaaGreatDoorZShelf
import Derived.Test.YtooligoacgemlaaGreatDoorZStoreG2
set_option linter.unusedVariables false
set_option linter.unusedSimpArgs false
-- AllocObjs
/- Package alloc: Objects, Is, Shape, as the document's. -/
namespace Go.Proofs.YtooligoacgemlaaGreatDoor
open Go.RowKit Sec
open Go.Proofs.YtooligoacgemlaaGreatDoor.Bk

section
variable {w : World} {x : Option Addr} {gv : Int → Int} {h l : Int}
set_option maxRecDepth 100000 in
set_option maxHeartbeats 2000000 in
theorem aobjs_no (hg : ∀ c u, Below w.heap.size w u → Calls Tryz.prog 21 #[.pointer x, .int .i64 c] u fun e w' => e = .returned (.int .i64 (gv c)) ∧ Below u.heap.size u w')
    (hq : ∀ u, Below w.heap.size w u → Calls Tryz.prog 23 #[.pointer x] u fun e w' => e = .returned (.agg #[.int .i64 h, .int .i64 l]) ∧ Below u.heap.size u w')
    (q : fineB h l (gv 0) (gv 1) (gv 2) (gv 3) = false) :
    Calls Tryz.prog 72 #[.pointer x] w fun e w' => e = .returned (.slice none 0 0) ∧ Below w.heap.size w w' := by
  have HG := Lib.hid (fun u (y : Below w.heap.size w u) => spget_any (w := u) (x := x) (gv := gv) (fun c v z => hg c v (geo_next y z)))
  have HQ := Lib.hid hq
  have HR := Lib.hid (fun u => spright_is h l (gv 0) (gv 1) (gv 2) (gv 3) u)
  clear hg hq
  rw [q] at HR
  clear q
  generalize gv 0 = g0 at *
  generalize gv 1 = g1 at *
  generalize gv 2 = g2 at *
  generalize gv 3 = g3 at *
  go_enter Tryz.func72, Tryz.ntmps72
  go_wp2_with (first
    | (go_at_call 23; refine (HQ.out _ (Below.refl _ _)).mono ?_; rintro e w1 ⟨rfl, b1⟩; have H1 := Lib.hid b1; clear b1)
    | (go_at_call 20; refine (HG.out _ H1.out).mono ?_; rintro e w2 ⟨rfl, b2⟩; have H2 := Lib.hid (geo_next H1.out b2); clear b2)
    | (go_at_call 45; refine (HR.out _).mono ?_; rintro e w3 ⟨rfl, b3⟩; have H3 := Lib.hid (kept6_keep (kept6_made w2 h l g0 g1 g2 g3) b3); clear b3))
  go_ret
  exact ⟨rfl, geo_next H2.out H3.out.2.2⟩
end
section
variable {B : Nat} {G : Nat → Prop} {w : World} {s H L : Nat} {W : List Int}
theorem asize_st (h : St B G w s H L W) (a : Nat) : Calls Tryz.prog 95 #[.pointer (some ⟨s, 0, none⟩), .int .i64 (a : Int)] w fun e w' => e = .returned (.int .i64 (szV (W.getD a 0))) ∧ Below w.heap.size w w' := by
  have hn := h.num a
  have := st_get h (a : Int)
  rw [wk_at h.len (by omega), Int.toNat_natCast] at this
  exact asize_any (a : Int) (W.getD a 0) (by omega) (by omega) this
theorem kept6_grown {w u u1 u' : World} {h l a b c d : Int} (x : Kept6 w h l a b c d u) (y : Below u.heap.size u u1) {row : Option Nat} (hg : u1.grownBy u' row) (hr : ∀ k, row = some k → w.heap.size + 2 ≤ k) : Kept6 w h l a b c d u' := by
  obtain ⟨⟨x0, x1, x2, x3, x4, x5⟩, x6, x7⟩ := x
  have e : ∀ k o, k ≤ w.heap.size + 1 → u'.cell? ⟨k, o, none⟩ = u.cell? ⟨k, o, none⟩ := fun k o q => World.cell?_of_block (a := ⟨k, o, none⟩) ((hg.block k (by have := y.size; omega) (fun e => by have := hr k e.symm; omega)).trans (y.block k (by omega)))
  exact ⟨⟨(e _ _ (by omega)).trans x0, (e _ _ (by omega)).trans x1, (e _ _ (by omega)).trans x2, (e _ _ (by omega)).trans x3, (e _ _ (by omega)).trans x4, (e _ _ (by omega)).trans x5⟩, Nat.lt_of_lt_of_le x6 (Nat.le_trans y.size hg.size), (geo_next x7 y).grown hg (by have := x7.size; have := y.size; omega) (fun k q => by have := hr k q; omega)⟩
set_option maxRecDepth 100000 in
set_option maxHeartbeats 8000000 in
theorem aobjs_yes (k : St B G w s H L W) (q1 : hOk H L W = true) : Calls Tryz.prog 72 #[.pointer (some ⟨s, 0, none⟩)] w fun e w' => ∃ v, e = .returned v ∧ Below w.heap.size w w' ∧ w'.ownsRow w.heap.size 3 1 v (objs H L W).1.length (vals (objs H L W).1) := by
  obtain ⟨i0, hi, hz0, hz1, hz2⟩ := info_parts (show (Tryz.prog.info? 3).map (fun i => (i.zero, i.size, i.bytes)) = some (some (.int .i64 0), 1, 8) by kernel_rfl)
  have HI := Lib.hid (And.intro hi (And.intro hz0 (And.intro hz1 hz2)))
  clear hi hz0 hz1 hz2
  have HQ := Lib.hid (fun u (y : Below w.heap.size w u) => st_geo (k.below y))
  have HG := Lib.hid (fun u (y : Below w.heap.size w u) => spget_st (k.below y))
  have HR := Lib.hid (fun u => spright_is H L (hSp W) (hFr W) (hGc W) (hSc W) u)
  rw [show fineB H L (hSp W) (hFr W) (hGc W) (hSc W) = true from q1] at HR
  have HS := Lib.hid (fun u (y : Below w.heap.size w u) (a : Nat) => asize_st (k.below y) a)
  have hWl := k.len
  rw [show objs H L W = objGo W (hFr W) 1000 (16 + hSp W * H) from if_pos q1]
  obtain ⟨f1, f2, _, ⟨f4, f5⟩, _⟩ := fine_yes q1
  obtain ⟨hq1, hq2, _, _⟩ := geOk_yes f1
  have HB := Lib.hid (fun u => gbase_is H L (hSp W) u)
  rw [ge_base f1 f2] at HB
  have hb : 0 ≤ hSp W * H ∧ hSp W * H ≤ H := by rcases f2 with e | e <;> rw [e] <;> omega
  obtain ⟨bs, hbs⟩ := Int.eq_ofNat_of_zero_le (show 0 ≤ 16 + hSp W * H by omega)
  rw [hbs] at HB f4 f5 ⊢
  have hbs1 : (bs : Int) ≤ 416 := by omega
  have hfl : hFr W ≤ 816 := by omega
  obtain ⟨fr, hfr⟩ : ∃ fr, fr = hFr W := ⟨_, rfl⟩
  rw [← hfr] at f4 f5 hfl HG HR ⊢
  obtain ⟨Z, hZ⟩ : ∃ Z, Z = (objGo W fr 1000 (bs : Int)).1 := ⟨_, rfl⟩
  rw [← hZ]
  have HZ := Lib.hid hZ
  have hlim : fr ≤ (bs : Int) + 400 := by omega
  clear hZ k q1 f1 f2 hb hbs hWl hfr
  generalize hSp W = x0 at *
  generalize hGc W = x2 at *
  generalize hSc W = x3 at *
  generalize (H : Int) = hh at *
  generalize (L : Int) = ll at *
  go_enter Tryz.func72, Tryz.ntmps72
  go_wp2_with (first
    | (go_at_call 23; refine (HQ.out _ (Below.refl _ _)).mono ?_; rintro e w1 ⟨rfl, b1⟩; have H1 := Lib.hid b1; clear b1)
    | (go_at_call 20; refine (HG.out _ H1.out).mono ?_; rintro e w2 ⟨rfl, b2⟩; have H2 := Lib.hid (geo_next H1.out b2); clear b2)
    | (go_at_call 45; refine (HR.out _).mono ?_; rintro e w3 ⟨rfl, b3⟩; have H3 := Lib.hid (kept6_keep (kept6_made w2 hh ll x0 fr x2 x3) b3); clear b3; obtain ⟨⟨c0, c1, c2, c3, c4, c5⟩, _, _⟩ := H3.out)
    | (go_at_call 69; refine (HB.out _).mono ?_; rintro e w4 ⟨rfl, b4⟩; replace H3 := Lib.hid (kept6_keep H3.out b4); clear b4 c0 c1 c2 c3 c4 c5))
  have HL := Lib.hid H3.out
  clear H3 HQ HG HR HB
  go_loopw [5, 6] (fun v i wr => ∃ (T : List Int) (n a : Nat), i = .int .i64 (a : Int) ∧ Hid (Z = T ++ (objGo W fr n (a : Int)).1) ∧ Hid (n + T.length = 1000) ∧ (T.length : Int) + (bs : Int) ≤ (a : Int) ∧ (a : Int) ≤ fr ∧ Hid (Kept6 w2 hh ll x0 fr x2 x3 wr ∧ wr.ownsRow (w2.heap.size + 2) 3 1 v T.length (vals T))) (fun _ i _ => (fr - intOf i).toNat)
  case atStart => exact ⟨[], 1000, bs, rfl, Lib.hid (by rw [List.nil_append]; exact HZ.out), Lib.hid rfl, by simp, f4, Lib.hid ⟨HL.out, World.ownsRow_nil _ _ _ _⟩⟩
  case round =>
    clear HL HZ
    obtain ⟨T, n, a, rfl, HT, HN, ht1, ht2, HW⟩ := hrel
    have hTl : T.length ≤ 400 := by omega
    have hTl2 : (T.length : Int) ≤ 400 := by omega
    obtain ⟨n, rfl⟩ : ∃ m, n = m + 1 := ⟨n - 1, by have := HN.out; omega⟩
    have HSa := Lib.hid (HS.out _ (geo_next H2.out HW.out.1.2.2) a)
    have hp := shOk_yes (pr_range (W.getD a 0))
    have hsz : szV (W.getD a 0) = 0 ∨ (hdOk (W.getD a 0) = true ∧ szV (W.getD a 0) = 1 + prS (W.getD a 0) + prW (W.getD a 0)) := by
      cases q : hdOk (W.getD a 0)
      · exact .inl (if_neg (by rw [q]; decide))
      · exact .inr ⟨rfl, if_pos q⟩
    have hno : szV (W.getD a 0) = 0 ∨ fr < (a : Int) + szV (W.getD a 0) → (objGo W fr (n + 1) (a : Int)).1 = [] := fun r => by
      by_cases e : fr ≤ (a : Int)
      · rw [objGo_end e]
      · rw [objGo_no n e]
        rw [Int.toNat_natCast]
        rcases hsz with z | ⟨z1, z2⟩
        · refine .inl ?_
          cases q : hdOk (W.getD a 0)
          · rfl
          · rw [szV, if_pos q] at z
            omega
        · rcases r with r | r
          · omega
          · exact .inr (by omega)
    have hyes : ¬ (szV (W.getD a 0) = 0) → ¬ fr < (a : Int) + szV (W.getD a 0) → (objGo W fr (n + 1) (a : Int)).1 = (a : Int) :: (objGo W fr n ((a : Int) + szV (W.getD a 0))).1 := fun r1 r2 => by
      rcases hsz with z | ⟨z1, z2⟩
      · exact absurd z r1
      · rw [objGo_yes n (by omega) (by rw [Int.toNat_natCast, z1]; rintro (e | e); exact absurd e (by decide); omega), Int.toNat_natCast, z2, show (a : Int) + (1 + prS (W.getD a 0) + prW (W.getD a 0)) = (a : Int) + 1 + prS (W.getD a 0) + prW (W.getD a 0) by omega]
    have hs1 : 0 ≤ szV (W.getD a 0) ∧ szV (W.getD a 0) ≤ 100 := by
      rcases hsz with z | ⟨z1, z2⟩ <;> omega
    have HNo := Lib.hid hno
    have HYes := Lib.hid hyes
    clear hsz hno hyes hp
    generalize szV (W.getD a 0) = sz at *
    obtain ⟨⟨c0, c1, c2, c3, c4, c5⟩, _, _⟩ := HW.out.1
    by_cases z0 : sz = 0
    · subst z0
      have HX : Hid (Z = T) := Lib.hid (by
        have := HT.out
        rwa [HNo.out (.inl rfl), List.append_nil] at this)
      clear HT HNo HYes c0 c1 c2 c3 c4 c5
      obtain ⟨a1, cp, rfl⟩ := owns_slice HW.out.2
      go_wp2_with (go_at_call 95; refine HSa.out.mono ?_; rintro e w5 ⟨rfl, b5⟩; have H5 := Lib.hid b5; clear b5)
      go_ret
      exact ⟨_, rfl, geo_next (geo_next H2.out HW.out.1.2.2) H5.out, by rw [HX.out]; exact owns_base (Nat.le_trans H2.out.size (Nat.le_add_right _ 2)) (own_below HW.out.2 H5.out)⟩
    · have z1 : (sz == 0) = false := beq_eq_false_iff_ne.2 z0
      have hw1 : IntKind.i64.wrap ((a : Int) + sz) = (a : Int) + sz := by rw [IntKind.wrap_i64]; omega
      by_cases z2 : fr < (a : Int) + sz
      · have HX : Hid (Z = T) := Lib.hid (by
          have := HT.out
          rwa [HNo.out (.inr z2), List.append_nil] at this)
        clear HT HNo HYes
        obtain ⟨a1, cp, rfl⟩ := owns_slice HW.out.2
        have c1' := fun u (y : Below wr.heap.size wr u) => (y.cell (p := ⟨w2.heap.size + 1, 1, none⟩) HW.out.1.2.1).trans c3
        clear c0 c1 c2 c3 c4 c5
        go_wp2_with (go_at_call 95; refine HSa.out.mono ?_; rintro e w5 ⟨rfl, b5⟩; have c3 := c1' _ b5; have H5 := Lib.hid b5; clear b5)
        go_ret
        exact ⟨_, rfl, geo_next (geo_next H2.out HW.out.1.2.2) H5.out, by rw [HX.out]; exact owns_base (Nat.le_trans H2.out.size (Nat.le_add_right _ 2)) (own_below HW.out.2 H5.out)⟩
      · have HX : Hid (Z = (T ++ [(a : Int)]) ++ (objGo W fr n ((a : Int) + sz)).1) := Lib.hid (by
          have := HT.out
          rw [HYes.out z0 z2] at this
          rw [List.append_assoc]
          exact this)
        obtain ⟨z, hz⟩ := Int.eq_ofNat_of_zero_le (show 0 ≤ (a : Int) + sz by omega)
        rw [hz] at HX
        have HZz := Lib.hid hz
        clear HT HNo HYes
        have c1' := fun u (y : Below wr.heap.size wr u) => (y.cell (p := ⟨w2.heap.size + 1, 1, none⟩) HW.out.1.2.1).trans c3
        clear c0 c1 c2 c3 c4 c5
        go_wp2_with (first
          | (go_at_call 95; refine HSa.out.mono ?_; rintro e w5 ⟨rfl, b5⟩; have c3 := c1' _ b5; have hsz5 : w2.heap.size + 2 ≤ w5.heap.size := Nat.le_trans HW.out.1.2.1 b5.size; have H5 := Lib.hid b5; clear b5)
          | (refine wpList_append_lies _ rfl (.tmp 34) (.tmp 36) 25 rfl (w2.heap.size + 2) 3 i0 _ 1 8 Tryz.underlying25 HI.out.1 HI.out.2.1 HI.out.2.2.1 HI.out.2.2.2 rfl (by omega) u5 T.length (vals T) rfl ((own_below HW.out.2 H5.out).alloc _) _ 1 1 [.int .i64 (a : Int)] rfl rfl (by exact World.news_of_block (heap_alloc_last _ _)) (by intro u hu; simp at hu; rw [hu]; rfl) (by omega) (by unfold maxLen; omega) (by omega) (by simp; omega) _ rfl ?_
             intro g4 cap w4 hown4 hgr4 hat4 hlt4
             have HY := Lib.hid (And.intro hown4 hgr4)
             clear hown4 hgr4 hat4 hlt4))
        have hk5 := kept6_keep HW.out.1 H5.out
        have hg5 := HW.out.2.lt
        have hw2 : w.heap.size ≤ w2.heap.size := H2.out.size
        refine ⟨⟨T ++ [(a : Int)], n, z, ?_, HX, Lib.hid ?_, ?_, ?_, Lib.hid ⟨?_, ?_⟩⟩, ?_⟩
        · rw [← HZz.out]
        · rw [List.length_append, List.length_singleton]
          have := HN.out
          omega
        · rw [List.length_append, List.length_singleton]
          have := HZz.out
          have := hs1
          omega
        · have := HZz.out
          omega
        · exact kept6_grown hk5 ((Below.refl _ _).alloc (Nat.le_refl _) _) HY.out.2 (fun k e => (hg5 k e).1)
        · rw [List.length_append, List.length_singleton]
          simpa [vals] using HY.out.1
        · have := HZz.out
          simp [intOf]
          try omega
theorem aobjs_st (k : St B G w s H L W) : Calls Tryz.prog 72 #[.pointer (some ⟨s, 0, none⟩)] w fun e w' => ∃ v, e = .returned v ∧ Below w.heap.size w w' ∧ w'.ownsRow w.heap.size 3 1 v (objs H L W).1.length (vals (objs H L W).1) := by
  cases q : hOk H L W
  · have := aobjs_no (w := w) (x := some ⟨s, 0, none⟩) (gv := fun c => wkC W (16 + 2 * H) c) (h := (H : Int)) (l := (L : Int)) (fun c u y => st_get (k.below y) c) (fun u y => st_geo (k.below y)) (by
      obtain ⟨e0, e1, e2, e3⟩ := wk_ctl (W := W) (N := 16 + 2 * H) (by omega)
      simp only [e0, e1, e2, e3]
      exact q)
    rw [show objs H L W = ([], false) from if_neg (by rw [q]; decide)]
    exact this.mono fun e w' ⟨h1, h2⟩ => ⟨_, h1, h2, World.ownsRow_nil _ _ _ _⟩
  · exact aobjs_yes k q
theorem contains_is {base : Nat} {v : Value} {l : List Int} (o : w.ownsRow base 3 1 v l.length (vals l)) (hl : l.length ≤ 1000) (a : Int) :
    Calls Tryz.prog 71 #[v, .int .i64 a] w fun e w' => e = .returned (.bool (decide (a ∈ l))) ∧ w' = w := by
  obtain ⟨a0, c, rfl, hli, ha⟩ := own_form o
  rcases Nat.eq_zero_or_pos l.length with z | z
  · obtain rfl := List.eq_nil_of_length_eq_zero z
    exact Tryz.slices_Contains_int_empty a0 c a w
  · obtain ⟨b, hb, _, _⟩ := hli 0 _ (hb_vals z)
    rcases ha with rfl | ⟨g, rfl, _, _⟩
    · cases hb
    · have := Tryz.slices_Contains_int g 0 l.length c l a w (Nat.le_refl _) (by omega) (fun j hj => by
        obtain ⟨b', hb', _, hc⟩ := hli j _ (hb_vals hj)
        obtain rfl := Option.some.inj hb'
        rw [Nat.zero_add]
        have e : (⟨g, 0, none⟩ : Addr).add j = ⟨g, j, none⟩ := by
          rw [Addr.add]
          split
          next q => rw [q]
          next => rw [Nat.zero_add]
        rw [e] at hc
        exact hc)
      rw [List.take_length] at this
      refine this.mono fun e w' ⟨h1, h2⟩ => ⟨?_, h2⟩
      rw [h1, List.contains_eq_mem]
set_option maxRecDepth 100000 in
set_option maxHeartbeats 2000000 in
theorem ais_any {x : Option Addr} {l : List Int} (hl : l.length ≤ 1000) (ho : Calls Tryz.prog 72 #[.pointer x] w fun e w' => ∃ v, e = .returned v ∧ Below w.heap.size w w' ∧ w'.ownsRow w.heap.size 3 1 v l.length (vals l)) (a : Int) :
    Calls Tryz.prog 48 #[.pointer x, .int .i64 a] w fun e w' => e = .returned (.bool (decide (a ∈ l))) ∧ Below w.heap.size w w' := by
  have HO := Lib.hid ho
  have HC := Lib.hid (fun base u v (o : World.ownsRow u base 3 1 v l.length (vals l)) => contains_is o hl a)
  clear ho hl
  generalize decide (a ∈ l) = t at *
  go_enter Tryz.func48, Tryz.ntmps48
  go_wp2_with (first
    | (go_at_call 72; refine HO.out.mono ?_; rintro e w1 ⟨v, rfl, b1, o1⟩; have H1 := Lib.hid (And.intro b1 o1); clear b1 o1)
    | (go_at_call 71; refine (HC.out _ _ _ H1.out.2).mono ?_; rintro e w2 ⟨rfl, hw⟩; obtain rfl := hw.symm))
  go_ret
  exact ⟨rfl, H1.out.1⟩
theorem ais_st (k : St B G w s H L W) (a : Int) : Calls Tryz.prog 48 #[.pointer (some ⟨s, 0, none⟩), .int .i64 a] w fun e w' => e = .returned (.bool (decide (a ∈ (objs H L W).1))) ∧ Below w.heap.size w w' :=
  ais_any (by have := objs_len H L W; omega) (aobjs_st k) a
theorem objGo_hd {W : List Int} {fr : Int} : ∀ (n : Nat) (a : Int), 0 ≤ a → ∀ y ∈ (objGo W fr n a).1, 0 ≤ y ∧ hdOk (W.getD y.toNat 0) = true
  | 0, a, _, y, hy => absurd hy List.not_mem_nil
  | n + 1, a, h0, y, hy => by
    by_cases q : fr ≤ a
    · rw [objGo_end q] at hy
      exact absurd hy List.not_mem_nil
    · by_cases r : hdOk (W.getD a.toNat 0) = false ∨ fr < a + 1 + prS (W.getD a.toNat 0) + prW (W.getD a.toNat 0)
      · rw [objGo_no n q r] at hy
        exact absurd hy List.not_mem_nil
      · rw [objGo_yes n q r] at hy
        have hp := shOk_yes (pr_range (W.getD a.toNat 0))
        rcases List.mem_cons.1 hy with rfl | hy
        · refine ⟨h0, ?_⟩
          cases e : hdOk (W.getD y.toNat 0)
          · exact absurd (.inl e) r
          · rfl
        · exact objGo_hd n _ (by omega) y hy
theorem objs_hd {h l : Int} {W : List Int} {y : Int} (hy : y ∈ (objs h l W).1) : 0 ≤ y ∧ hdOk (W.getD y.toNat 0) = true := by
  rw [objs] at hy
  split at hy
  next q =>
    obtain ⟨f1, f2, _, _, _⟩ := fine_yes q
    have hq := geOk_yes f1
    have hmul0 : 0 ≤ hSp W * h := by rcases f2 with e | e <;> rw [e] <;> omega
    exact objGo_hd 1000 _ (by omega) y hy
  next => exact absurd hy List.not_mem_nil
/-- How many slots, and words, an object has that lies there; 0: there is none. -/
def shAS (h l : Int) (W : List Int) (a : Int) : Int := if a ∈ (objs h l W).1 then prS (W.getD a.toNat 0) else 0
def shAW (h l : Int) (W : List Int) (a : Int) : Int := if a ∈ (objs h l W).1 then prW (W.getD a.toNat 0) else 0
set_option maxRecDepth 100000 in
set_option maxHeartbeats 2000000 in
theorem ashape_st (k : St B G w s H L W) (a : Int) : Calls Tryz.prog 19 #[.pointer (some ⟨s, 0, none⟩), .int .i64 a] w fun e w' => e = .returned (.tuple #[.int .i64 (shAS H L W a), .int .i64 (shAW H L W a), .bool (decide (a ∈ (objs H L W).1))]) ∧ Below w.heap.size w w' := by
  have HI := Lib.hid (ais_st k a)
  by_cases q : a ∈ (objs H L W).1
  · obtain ⟨h0, h1⟩ := objs_hd q
    rw [shAS, shAW, if_pos q, if_pos q]
    rw [decide_eq_true q] at HI ⊢
    have hn := k.num a.toNat
    have HG := Lib.hid (fun u (y : Below w.heap.size w u) => st_get (k.below y) a)
    rw [wk_at k.len h0] at HG
    have HP := Lib.hid (oparse_is (W.getD a.toNat 0) (by omega) (by omega))
    rw [h1] at HP
    clear k q h0 h1 hn
    generalize prS (W.getD a.toNat 0) = ps at *
    generalize prW (W.getD a.toNat 0) = pw at *
    generalize W.getD a.toNat 0 = v at *
    go_enter Tryz.func19, Tryz.ntmps19
    go_wp2_with (first
      | (go_at_call 48; refine HI.out.mono ?_; rintro e w1 ⟨rfl, b1⟩; have H1 := Lib.hid b1; clear b1)
      | (go_at_call 21; refine (HG.out _ H1.out).mono ?_; rintro e w2 ⟨rfl, b2⟩; have H2 := Lib.hid (geo_next H1.out b2); clear b2)
      | (go_at_call 49; refine (HP.out _).mono ?_; rintro e w3 ⟨rfl, hw⟩; obtain rfl := hw.symm))
    go_ret3
    exact ⟨rfl, H2.out⟩
  · rw [shAS, shAW, if_neg q, if_neg q]
    rw [decide_eq_false q] at HI ⊢
    clear k q
    go_enter Tryz.func19, Tryz.ntmps19
    go_wp2_with (go_at_call 48; refine HI.out.mono ?_; rintro e w1 ⟨rfl, b1⟩; have H1 := Lib.hid b1; clear b1)
    go_ret3
    exact ⟨rfl, H1.out⟩
end
/-- Of a nil store. -/
theorem aobjs_nil (w : World) : Calls Tryz.prog 72 #[.pointer none] w fun e w' => e = .returned (.slice none 0 0) ∧ Below w.heap.size w w' :=
  aobjs_no (x := none) (gv := fun _ => 0) (h := 0) (l := 0) (fun c u _ => get_nil c u) (fun u _ => geo_nil u) (fine_zero _ _ _ _)
theorem ais_nil (a : Int) (w : World) : Calls Tryz.prog 48 #[.pointer none, .int .i64 a] w fun e w' => e = .returned (.bool false) ∧ Below w.heap.size w w' :=
  ais_any (l := []) (by decide) ((aobjs_nil w).mono fun e w' ⟨h1, h2⟩ => ⟨_, h1, h2, World.ownsRow_nil _ _ _ _⟩) a
set_option maxRecDepth 100000 in
set_option maxHeartbeats 2000000 in
theorem anew_nil (w : World) : Calls Tryz.prog 17 #[.pointer none, .int .i64 1, .int .i64 1] w fun e w' => e = .returned (.tuple #[.int .i64 0, .int .i64 1]) ∧ Below w.heap.size w w' := by
  have HHd := Lib.hid (fun u => oheader_is 1 1 u)
  have HSz := Lib.hid (fun u => osize_is 1 1 u)
  have HGet := Lib.hid (spget_nil w)
  have HQ := Lib.hid (fun u => geo_nil u)
  have HR := Lib.hid (fun u => spright_is 0 0 0 0 0 0 u)
  rw [fine_zero] at HR
  generalize hdI 1 1 = hd at *
  generalize szI 1 1 = sz at *
  generalize shOk 1 1 = sh at *
  go_enter Tryz.func17, Tryz.ntmps17
  go_wp2_with (first
    | (go_at_call 20; refine HGet.out.mono ?_; rintro e w1 ⟨rfl, b1⟩; have H1 := Lib.hid b1; have HK := Lib.hid (kept4_made w1 0 0 0 0); clear b1)
    | (go_at_call 43; refine (HHd.out _).mono ?_; rintro e w' ⟨rfl, hw⟩; obtain rfl := hw.symm)
    | (go_at_call 44; refine (HSz.out _).mono ?_; rintro e w' ⟨rfl, hw⟩; obtain rfl := hw.symm))
  go_region_held3 (fun u => (u.cell? ⟨w1.heap.size, 0, none⟩ = some (.int .i64 0) ∧ u.cell? ⟨w1.heap.size, 1, none⟩ = some (.int .i64 0) ∧ u.cell? ⟨w1.heap.size, 2, none⟩ = some (.int .i64 0) ∧ u.cell? ⟨w1.heap.size, 3, none⟩ = some (.int .i64 0)) ∧ w1.heap.size < u.heap.size ∧ Below w1.heap.size w1 u) (first
      | assumption
      | exact HK.out
      | exact kept4_keep HK.out (Below.refl _ _).drew
      | exact kept4_keep (by assumption) b4
      | exact kept4_keep (by assumption) b5) (first
    | (go_at_call 23; refine (HQ.out _).mono ?_; rintro e w4 ⟨rfl, b4⟩)
    | (go_at_call 45; refine (HR.out _).mono ?_; rintro e w5 ⟨rfl, b5⟩))
  rename_i hH
  have HP := Lib.hid hH.2.2
  clear hH
  go_wp2_with fail
  go_ret2
  exact ⟨rfl, geo_next H1.out HP.out⟩
end Go.Proofs.YtooligoacgemlaaGreatDoor
-- AllocLaws
/- The laws of stage 12: their helper alive; what they keep. -/
namespace Go.Proofs.YtooligoacgemlaaGreatDoor
open Go.RowKit Sec
open Go.Proofs.YtooligoacgemlaaGreatDoor.Bk

theorem al_one : Mk (20 : Nat) (6 : Nat) (freshC 20) 2 3 16 6 ∧ objs (20 : Nat) (6 : Nat) (newW (20 : Nat) (6 : Nat) (freshC 20) 2 3) = ([16], true) := by
  have hg : geOk (20 : Nat) (6 : Nat) = true := by decide
  obtain ⟨e0, e1, _, _⟩ := fresh_ctl 20
  have m : Mk (20 : Nat) (6 : Nat) (freshC 20) 2 3 16 6 := mk_of (by rw [freshC_len]; decide) (fresh_ok hg) (by decide) e1 (by decide) (by rw [e0]; decide)
  refine ⟨m, ?_⟩
  rw [m.objs (by rw [fresh_objs hg]), fresh_objs hg]
  rfl
theorem al_two : Mk (20 : Nat) (6 : Nat) (newW (20 : Nat) (6 : Nat) (freshC 20) 2 3) 0 1 22 2 ∧ objs (20 : Nat) (6 : Nat) (newW (20 : Nat) (6 : Nat) (newW (20 : Nat) (6 : Nat) (freshC 20) 2 3) 0 1) = ([16, 22], true) := by
  obtain ⟨m, o⟩ := al_one
  obtain ⟨e0, _, _, _⟩ := fresh_ctl 20
  obtain ⟨c0, c1, _, _⟩ := m.ctl
  have m2 : Mk (20 : Nat) (6 : Nat) (newW (20 : Nat) (6 : Nat) (freshC 20) 2 3) 0 1 22 2 := mk_of (by rw [new_len, freshC_len]; decide) m.ok' (by decide) (c1.trans (by decide)) (by decide) (by rw [c0, e0]; decide)
  refine ⟨m2, ?_⟩
  rw [m2.objs (by rw [o]), o]
  rfl
/-- What the laws keep: the geometry's box, the store; the blocks G lie beside it. -/
structure LwS (W : World) (h l : Int) (B : Nat) (G : Nat → Prop) (s H L : Nat) (V : List Int) (u : World) : Prop where
  g : GBox u W.heap.size h l
  b : Below W.heap.size W u
  s : St B G u s H L V
  lt : W.heap.size < B
  gg : ∀ k, k < B → G k
section
variable {W u u' : World} {h l : Int} {B s H L : Nat} {G G' : Nat → Prop} {V V' : List Int}
theorem LwS.below (x : LwS W h l B G s H L V u) (y : Below u.heap.size u u') : LwS W h l B G s H L V u' := ⟨x.g.below y, geo_next x.b y, x.s.below y, x.lt, x.gg⟩
theorem LwS.start {v : World} (g : GBox v W.heap.size h l) (b : Below W.heap.size W v) (h3 : St v.heap.size (fun k => k < v.heap.size) u s H L V) (b3 : Below v.heap.size v u) : LwS W h l v.heap.size (fun k => k < v.heap.size) s H L V u :=
  ⟨g.below b3, geo_next b b3, h3, g.lt, fun _ q => q⟩
theorem LwS.set (x : LwS W h l B G s H L V u) (h1 : St B G u' s H L V') (h2 : Below B u u') (h3 : KeptG G u u') : LwS W h l B G s H L V' u' :=
  have c := x.gg _ x.lt
  ⟨⟨Nat.lt_of_lt_of_le x.g.lt h2.size, (h3.cell ⟨_, 0, none⟩ c).trans x.g.c0, (h3.cell ⟨_, 1, none⟩ c).trans x.g.c1⟩, x.b.trans (h2.mono (Nat.le_of_lt x.lt)), h1, x.lt, x.gg⟩
/-- What a call made is kept beside the store from then on. -/
theorem LwS.more (x : LwS W h l B G s H L V u) (y : Below u.heap.size u u') : LwS W h l B (fun k => G k ∨ (u.heap.size ≤ k ∧ k < u'.heap.size)) s H L V u' :=
  ⟨x.g.below y, geo_next x.b y, x.s.more y, x.lt, fun k q => .inl (x.gg k q)⟩
/-- What is kept beside the store has turned, and there are news. -/
theorem LwS.turn (x : LwS W h l B G s H L V u) (b : Below B u u') (hb : ∀ k, k < u.heap.size → ¬ G k → u'.heap[k]? = u.heap[k]?) (hk : u'.heap[W.heap.size]? = u.heap[W.heap.size]?) : LwS W h l B (fun k => G k ∨ (u.heap.size ≤ k ∧ k < u'.heap.size)) s H L V u' :=
  ⟨⟨Nat.lt_of_lt_of_le x.g.lt b.size, (World.cell?_of_block (a := ⟨_, 0, none⟩) hk).trans x.g.c0, (World.cell?_of_block (a := ⟨_, 1, none⟩) hk).trans x.g.c1⟩, x.b.trans (b.mono (Nat.le_of_lt x.lt)), x.s.turn b hb, x.lt, fun k q => .inl (x.gg k q)⟩
/-- A list of the law's own, beside the store. -/
structure LwA (W : World) (h l : Int) (B : Nat) (s H L : Nat) (V : List Int) (v : Value) (T : List Int) (u : World) : Prop where
  x : ∃ G, LwS W h l B G s H L V u ∧ (∀ g, v.ownBlock = some g → G g) ∧ ∀ k, G k → k < u.heap.size
  o : u.ownsRow B 3 1 v T.length (vals T)
variable {v : Value} {T : List Int}
theorem LwA.below (x : LwA W h l B s H L V v T u) (y : Below u.heap.size u u') : LwA W h l B s H L V v T u' := by
  obtain ⟨⟨G, x1, x2, x3⟩, o⟩ := x
  exact ⟨⟨G, x1.below y, x2, fun k q => Nat.lt_of_lt_of_le (x3 k q) y.size⟩, own_below o y⟩
/-- Behind a call that turns the store. -/
theorem LwA.new (x : LwA W h l B s H L V v T u) {f : FuncId} {args : Array Value} {r : Ending} (y : ∀ G, St B G u s H L V → Calls Tryz.prog f args u fun e w' => e = r ∧ St B G w' s H L V' ∧ Below B u w' ∧ KeptG G u w') :
    Calls Tryz.prog f args u fun e w' => e = r ∧ LwA W h l B s H L V' v T w' := by
  obtain ⟨⟨G, x1, x2, x3⟩, o⟩ := x
  exact (y G x1.s).mono fun e w' ⟨y0, y1, y2, y3⟩ => ⟨y0, ⟨G, x1.set y1 y2 y3, x2, fun k q => Nat.lt_of_lt_of_le (x3 k q) y2.size⟩, hb_same o fun g hg => y3 g (x2 g hg)⟩
theorem LwA.st (x : LwA W h l B s H L V v T u) : ∃ G, St B G u s H L V := by
  obtain ⟨⟨G, x1, _⟩, _⟩ := x
  exact ⟨G, x1.s⟩
theorem LwA.b (x : LwA W h l B s H L V v T u) : Below W.heap.size W u := by
  obtain ⟨⟨G, x1, _⟩, _⟩ := x
  exact x1.b
theorem LwA.start (x : LwS W h l B (fun k => k < B) s H L V u) : LwA W h l B s H L V (.slice none 0 0) [] u :=
  ⟨⟨_, x, fun g q => (by cases q), fun k q => Nat.lt_of_lt_of_le q x.s.le⟩, World.ownsRow_nil _ _ _ _⟩
/-- One number more. -/
theorem LwA.push (x : LwA W h l B s H L V v T u) {u1 : World} (y : Below u.heap.size u u1) {g c n : Nat} {z : Int} (hn : n = T.length + 1)
    (ho : u'.ownsRow B 3 1 (.slice (some ⟨g, 0, none⟩) n c) n (vals T ++ [.int .i64 z])) (hg : u1.grownBy u' v.ownBlock) (hat : v.ownBlock = some g ∨ g = u1.heap.size) (hlt : g < u'.heap.size) : LwA W h l B s H L V (.slice (some ⟨g, 0, none⟩) n c) (T ++ [z]) u' := by
  obtain ⟨⟨G, x1, x2, x3⟩, o⟩ := x
  subst hn
  have hB := x1.s.le
  have b1 : Below B u u' := (y.mono hB).grown hg (Nat.le_trans hB y.size) (fun k q => (o.lt k q).1)
  have hne : v.ownBlock ≠ some W.heap.size := fun e => by
    have := (o.lt _ e).1
    have := x1.lt
    omega
  have hW : W.heap.size < u.heap.size := x1.g.lt
  have same : ∀ k, k < u.heap.size → v.ownBlock ≠ some k → u'.heap[k]? = u.heap[k]? := fun k q r =>
    (hg.block k (Nat.lt_of_lt_of_le q y.size) (fun e => r e.symm)).trans (y.block k q)
  refine ⟨⟨_, x1.turn b1 (fun k q r => same k q (fun e => r (x2 k e))) (same _ hW hne), fun g' e => ?_, fun k q => ?_⟩, ?_⟩
  · obtain rfl : g = g' := by simpa [Value.ownBlock] using e
    rcases hat with q | q
    · exact .inl (x2 g q)
    · exact .inr ⟨by rw [q]; exact y.size, hlt⟩
  · rcases q with q | q
    · exact Nat.lt_of_lt_of_le (x3 k q) b1.size
    · exact q.2
  · rw [List.length_append]
    simpa [vals] using ho
end
end Go.Proofs.YtooligoacgemlaaGreatDoor
